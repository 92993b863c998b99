/- Texts of the proof, one behind the other; what each holds is said at its head. -/
import Derived.Test.YtdjpkgaicmklmabPartChained4
import Derived.Deep.RegionLaw
import Derived.Test.YtdjpkgaicmklmabPartChained1
import Derived.BigQuiet
import Derived.Deep.QuietTactic
import Derived.Test.YtdjpkgaicmklmabPartChained2
import Derived.Test.YtdjpkgaicmklmabPartChained3
/- outOfOrder of the program: walked. -/
namespace Go.Proofs.Ytdjpkgaicmklmab
open Go.RowKit

theorem getD_lt (l : List Fd) (i : Nat) (h : i < l.length) : l.getD i fd0 = l[i] := by simp [List.getD, h]
theorem ordF_step {p f : Fd} {l : List Fd} : ordF p (f :: l) = if fitB p f = true then ordF f l else some f.at_ := rfl

set_option maxRecDepth 100000 in
set_option maxHeartbeats 4000000 in
theorem outOfOrder_any (l : List Fd) (ad : Option Addr) (N cap : Nat) (w : World) (hN : N = l.length) (hl : Lies w ad N 9 (fun i => (l.getD i fd0).cells)) (hk : ∀ f, f ∈ l → Kd f) (h4 : ∀ f r, l = f :: r → f.at_ = 4) (hNb : N ≤ 1099511627776) :
    Calls Try.prog 60 #[.slice ad N cap] w fun e w' => e = .returned (.int .i64 ((ordRd l).getD 0)) ∧ Below w.heap.size w w' := by
  cases l with
  | nil =>
    have hn0 : ((N : Int) == 0) = true := by rw [hN]; rfl
    clear hN hl
    go_enter Try.func60, Try.ntmps60
    go_wp2_with fail
    go_ret
    exact ⟨rfl, Below.refl _ _⟩
  | cons f0 r =>
    have HN : Hid (N = (f0 :: r).length) := hN
    have hpos : 0 < N := by rw [hN]; simp
    have hn0 : ((N : Int) == 0) = false := by simp; omega
    obtain ⟨b, o, hbl, hix, c0, c1, -⟩ := hl.found cap hpos
    have hix0 : ∀ w', (Instr.indexAt 93 (.slice ad N cap) (.int .i64 0)).run Try.prog w' = .ok (.pointer (some ⟨b, o, none⟩)) w' := hix
    have hc1 : w.cell? ⟨b, o + 1, none⟩ = some (.int .i64 f0.kind) := c1
    clear hix c0 c1 hN
    by_cases hk0 : f0.kind = 4
    · have hkb : (f0.kind != 4) = false := by rw [hk0]; rfl
      have HO : Hid (ordRd (f0 :: r) = ordF f0 r) := by show _ = _; simp only [ordRd, if_pos hk0]
      clear hk0
      go_enter Try.func60, Try.ntmps60
      go_wp2_with fail
      go_loopw [3] (fun u wr => ∃ i : Nat, 1 ≤ i ∧ i ≤ N ∧ u = .int .i64 i ∧ ordRd (f0 :: r) = ordF ((f0 :: r).getD (i - 1) fd0) ((f0 :: r).drop i) ∧ Below w.heap.size w wr) (fun u _ => N - (intOf u).toNat)
      case atStart => exact ⟨1, by omega, by omega, rfl, HO.out, Below.refl _ _⟩
      case round =>
        obtain ⟨i, hi1, hi, rfl, ho, hbr⟩ := hrel
        have HOI : Hid (ordRd (f0 :: r) = ordF ((f0 :: r).getD (i - 1) fd0) ((f0 :: r).drop i)) := ho
        clear ho
        by_cases hlt : i < N
        · have hil : i < (f0 :: r).length := by rw [← HN.out]; exact hlt
          have hdr : (f0 :: r).drop i = (f0 :: r).getD i fd0 :: (f0 :: r).drop (i + 1) := by
            rw [List.drop_eq_getElem_cons hil, getD_lt _ _ hil]
          have HST : Hid (ordRd (f0 :: r) = if fitB ((f0 :: r).getD (i - 1) fd0) ((f0 :: r).getD i fd0) = true then ordF ((f0 :: r).getD i fd0) ((f0 :: r).drop (i + 1)) else some ((f0 :: r).getD i fd0).at_) := by
            show _ = _; rw [HOI.out, hdr]; rfl
          have hmem : ∀ j, j < (f0 :: r).length → Kd ((f0 :: r).getD j fd0) := fun j hj => by
            rw [getD_lt _ _ hj]; exact hk _ (List.getElem_mem hj)
          have HMF : Hid (mayB ((f0 :: r).getD (i - 1) fd0) ((f0 :: r).getD i fd0) = fitB ((f0 :: r).getD (i - 1) fd0) ((f0 :: r).getD i fd0)) := may_fit (hmem _ (by omega)) (hmem _ hil)
          obtain ⟨b1, o1, hbl1, hix1, c0, c1, c2, c3, c4, c5, c6, c7, c8⟩ := (hl.below hbr).found cap (show i - 1 < N by omega)
          obtain ⟨b2, o2, hbl2, hix2, d0, d1, d2, d3, d4, d5, d6, d7, d8⟩ := (hl.below hbr).found cap hlt
          replace hix1 : ∀ w', (Instr.indexAt 93 (.slice ad N cap) (.int .i64 ((i : Int) - 1))).run Try.prog w' = .ok (.pointer (some ⟨b1, o1, none⟩)) w' := by
            intro w'; have := hix1 w'; rwa [show ((i - 1 : Nat) : Int) = (i : Int) - 1 by omega] at this
          have HD0 : Hid (∀ wX, Below wr.heap.size wr wX → wX.cell? ⟨b2, o2, none⟩ = some (.int .i64 ((f0 :: r).getD i fd0).at_)) := fun wX hX => (hX.cell (p := ⟨b2, o2, none⟩) hbl2).trans d0
          have hwr : IntKind.i64.wrap ((i : Int) - 1) = (i : Int) - 1 := by rw [IntKind.wrap_i64]; omega
          clear hdr hmem HOI hil
          generalize (f0 :: r).getD (i - 1) fd0 = p at *
          generalize hgf : (f0 :: r).getD i fd0 = f at *
          have HGF : Hid ((f0 :: r).getD i fd0 = f) := hgf
          clear hgf
          go_wp2_with fail
          go_region_law (go_simp; go_at_call 82; refine (mayFollow_any p f _).mono ?_; rintro e w' ⟨rfl, hb'⟩; rw [HMF.out]; dsimp only)
          all_goals
            have hb2 : Below wr.heap.size wr w' := Below.trans (Below.drew (Below.refl _ _)) hb'
            have hbw : Below w.heap.size w w' := hbr.trans (hb2.mono hbr.size)
            have hd0 := HD0.out _ hb2
            cases hfit : fitB p f with
            | true =>
              have HS2 : Hid (ordRd (f0 :: r) = ordF f ((f0 :: r).drop (i + 1))) := by show _ = _; rw [HST.out, if_pos hfit]
              clear HST HMF hb' hb2
              go_wp2_with fail
              go_roundw
              case rel => exact ⟨i + 1, by omega, by omega, by go_num, by rw [show i + 1 - 1 = i by omega, HGF.out]; exact HS2.out, hbw⟩
              case measure => simp [intOf]; omega
            | false =>
              have HS2 : Hid ((ordRd (f0 :: r)).getD 0 = f.at_) := by show _ = _; rw [HST.out, hfit]; rfl
              clear HST HMF hb' hb2
              go_wp2_with fail
              go_ret
              exact ⟨by rw [HS2.out]; rfl, hbw⟩
        · have hi3 : i = N := by omega
          subst hi3
          have HE : Hid ((ordRd (f0 :: r)).getD 0 = 0) := by
            show _ = _; rw [HOI.out, List.drop_of_length_le (by rw [← HN.out]; exact Nat.le_refl _)]; rfl
          go_wp2_with fail
          go_ret
          exact ⟨by rw [HE.out]; rfl, hbr⟩
    · have hkb : (f0.kind != 4) = true := by rw [bne_iff_ne]; exact hk0
      have HE : Hid ((ordRd (f0 :: r)).getD 0 = 4) := by show _ = _; simp only [ordRd, if_neg hk0]; exact h4 f0 r rfl
      clear hk0
      go_enter Try.func60, Try.ntmps60
      go_wp2_with fail
      go_ret
      exact ⟨by rw [HE.out]; rfl, Below.refl _ _⟩
end Go.Proofs.Ytdjpkgaicmklmab

/- The owner's books: lists that came out, each with its mark, and what stays of them at each step. -/
namespace Go.Proofs.Ytdjpkgaicmklmab
open Go.RowKit

/-- A list that came out, and the mark that its elements read. -/
structure Bk where
  ad : Option Addr
  n : Nat
  cap : Nat
  mrk : List Value
abbrev Bk.cells (x : Bk) : List Value := .slice x.ad x.n x.cap :: x.mrk
def bcells (L : List Bk) : List Value := (L.map Bk.cells).flatten
theorem bcells_snoc (L : List Bk) (x : Bk) : bcells (L ++ [x]) = bcells L ++ x.cells := by simp [bcells]
/-- It reads so. -/
structure Reads1 (Sh : List Value → Prop) (w : World) (B e m : Nat) (x : Bk) : Prop where
  len : x.mrk.length = m
  vec : Vec w B e m x.ad x.n x.cap (rep x.n x.mrk)
  few : x.n ≤ 1099511627780
  shape : Sh x.mrk
/-- The books of one kind. -/
structure Books (Sh : List Value → Prop) (w : World) (B e eb m : Nat) (ad : Option Addr) (cap : Nat) (L : List Bk) : Prop where
  list : Vec w B eb (m + 1) ad L.length cap (bcells L)
  each : ∀ x, x ∈ L → Reads1 Sh w B e m x
theorem Books.nil {Sh : List Value → Prop} (w : World) (B e eb m : Nat) : Books Sh w B e eb m none 0 [] := ⟨Vec.nil _ _ _ _, fun x h => by cases h⟩
theorem Books.keep {Sh : List Value → Prop} {w w' : World} {B e eb m : Nat} {ad : Option Addr} {cap : Nat} {L : List Bk} (h : Books Sh w B e eb m ad cap L) (hb : Below w.heap.size w w') : Books Sh w' B e eb m ad cap L :=
  ⟨h.list.keep hb, fun x hx => ⟨(h.each x hx).len, (h.each x hx).vec.keep hb, (h.each x hx).few, (h.each x hx).shape⟩⟩

/-- But for block go, and blocks of two types, all is as it was. -/
structure But3 (go e eb : Nat) (w w' : World) : Prop where
  size : w.heap.size ≤ w'.heap.size
  block : ∀ k cur t, k ≠ go → w.heap[k]? = some (.cells cur t) → t ≠ e → t ≠ eb → w'.heap[k]? = some (.cells cur t)
theorem But3.trans {go e eb : Nat} {a b c : World} (h : But3 go e eb a b) (h' : But3 go e eb b c) : But3 go e eb a c :=
  ⟨Nat.le_trans h.size h'.size, fun k cur t h1 h2 h3 h4 => h'.block k cur t h1 (h.block k cur t h1 h2 h3 h4) h3 h4⟩
theorem But3.of_below {go e eb : Nat} {w w' : World} (h : Below w.heap.size w w') : But3 go e eb w w' :=
  ⟨h.size, fun k _ _ _ h2 _ _ => by rw [h.block k (Array.getElem?_eq_some_iff.1 h2).1]; exact h2⟩
theorem But3.of_upd {go e eb g : Nat} {w w' : World} (h : Upd g w w') (hg : g = go ∨ ∃ cur t, w.heap[g]? = some (.cells cur t) ∧ (t = e ∨ t = eb)) : But3 go e eb w w' :=
  ⟨by rw [h.size]; exact Nat.le_refl _, fun k cur t h1 h2 h3 h4 => by
    have hk : k ≠ g := by
      rintro rfl
      rcases hg with hg | ⟨cur', t', hc, ht⟩
      · exact h1 hg
      · rw [h2] at hc; simp at hc; obtain ⟨-, rfl⟩ := hc; rcases ht with ht | ht
        · exact h3 ht
        · exact h4 ht
    rw [h.block k hk]; exact h2⟩
theorem But3.of_kp {go e eb : Nat} {g : Option Nat} {mk : List Value} {w w' : World} (h : Kp g mk w w') (hg : ∀ k, g = some k → ∃ cur t, w.heap[k]? = some (.cells cur t) ∧ (t = e ∨ t = eb)) : But3 go e eb w w' :=
  ⟨h.size, fun k cur t _ h2 h3 h4 => by
    have hk : g ≠ some k := by
      intro hk
      obtain ⟨cur', t', hc, ht⟩ := hg k hk
      rw [h2] at hc; simp at hc; obtain ⟨-, rfl⟩ := hc; rcases ht with ht | ht
      · exact h3 ht
      · exact h4 ht
    rw [h.block k (Array.getElem?_eq_some_iff.1 h2).1 hk]; exact h2⟩
theorem Vec.typed {w : World} {B e m : Nat} {ad : Option Addr} {n cap : Nat} {xs : List Value} (h : Vec w B e m ad n cap xs) : ∀ k, ad.map (·.block) = some k → B ≤ k ∧ ∃ cur, w.heap[k]? = some (.cells cur e) := by
  intro k hk
  rcases h.2 with ⟨h2, _⟩ | ⟨g, c, cur, hv, hB, hc, _⟩
  · simp at h2; rw [h2.1] at hk; cases hk
  · simp at hv; rw [hv.1] at hk; simp at hk; subst hk; exact ⟨hB, cur, hc⟩
theorem Vec.but3 {w w' : World} {B e m go e1 eb1 : Nat} {ad : Option Addr} {n cap : Nat} {xs : List Value} (h : Vec w B e m ad n cap xs) (hb : But3 go e1 eb1 w w') (h1 : e ≠ e1) (h2 : e ≠ eb1) (hgo : ∀ k, ad.map (·.block) = some k → k ≠ go) : Vec w' B e m ad n cap xs := by
  refine ⟨h.1, ?_⟩
  rcases h.2 with h3 | ⟨k, c, cur, hv, hB, hc, r⟩
  · exact Or.inl h3
  · refine Or.inr ⟨k, c, cur, hv, hB, hb.block k cur e (hgo k ?_) hc h1 h2, r⟩
    simp at hv; rw [hv.1]; rfl
theorem Vec.updo {w w' : World} {B e m g : Nat} {ad : Option Addr} {n cap : Nat} {xs : List Value} (h : Vec w B e m ad n cap xs) (hu : Upd g w w') (hg : ∀ b, ad = some b → b.block ≠ g) : Vec w' B e m ad n cap xs := by
  refine ⟨h.1, ?_⟩
  rcases h.2 with h2 | ⟨k, c, cur, hv, hB, hk, r⟩
  · exact Or.inl h2
  · refine Or.inr ⟨k, c, cur, hv, hB, ?_, r⟩
    simp at hv
    rw [hu.block k (hg _ hv.1)]; exact hk
/-- Books of other types stay. -/
theorem Books.but3 {Sh : List Value → Prop} {w w' : World} {B e eb m go e1 eb1 tT : Nat} {oc : List Value} {ad : Option Addr} {cap : Nat} {L : List Bk} (h : Books Sh w B e eb m ad cap L) (hb : But3 go e1 eb1 w w') (ho : Bx w go tT oc)
    (h1 : e ≠ e1) (h2 : e ≠ eb1) (h3 : eb ≠ e1) (h4 : eb ≠ eb1) (h5 : e ≠ tT) (h6 : eb ≠ tT) : Books Sh w' B e eb m ad cap L :=
  ⟨h.list.but3 hb h3 h4 (fun k hk e => ho.apart h.list h6 (by rw [hk, e])), fun x hx => ⟨(h.each x hx).len, (h.each x hx).vec.but3 hb h1 h2 (fun k hk e => ho.apart (h.each x hx).vec h5 (by rw [hk, e])), (h.each x hx).few, (h.each x hx).shape⟩⟩

/-- While the owner writes a list over: his variable, the mark, the list, the books of its kind. -/
structure St (Sh : List Value → Prop) (w0 w : World) (B B1 go gm tT e eb m f : Nat) (oc mk : List Value) (ad : Option Addr) (N cap : Nat) (a4 : Option Addr) (c4 : Nat) (L : List Bk) : Prop where
  o : Bx w go tT oc
  k : Bx w gm e mk
  l : Vec w B1 e m ad N cap (rep N mk)
  b : Vec w B eb (m + 1) a4 L.length c4 (bcells L)
  each : ∀ x, x ∈ L → Reads1 Sh w B e m x ∧ ((∀ b, x.ad = some b → b.block < B1) ∨ x.mrk = mk)
  at_ : oc[f]? = some (.slice a4 L.length c4)
  mark : mk.length = m
  low : B ≤ go
  big : B ≤ B1
  apt : ∀ b, ad = some b → b.block ≠ gm
  old : Below B w0 w
  but : But3 go e eb w0 w

theorem St.step {Sh : List Value → Prop} {w0 w w' : World} {B B1 go gm tT e eb m f : Nat} {oc mk : List Value} {ad : Option Addr} {N cap : Nat} {a4 : Option Addr} {c4 : Nat} {L : List Bk} (h : St Sh w0 w B B1 go gm tT e eb m f oc mk ad N cap a4 c4 L) (hb : Below w.heap.size w w') (hB : B ≤ w.heap.size) : St Sh w0 w' B B1 go gm tT e eb m f oc mk ad N cap a4 c4 L :=
  ⟨h.o.below hb h.o.lt, h.k.below hb h.k.lt, h.l.keep hb, h.b.keep hb, fun x hx => ⟨⟨(h.each x hx).1.len, (h.each x hx).1.vec.keep hb, (h.each x hx).1.few, (h.each x hx).1.shape⟩, (h.each x hx).2⟩, h.at_, h.mark, h.low, h.big, h.apt, h.old.trans (hb.mono hB), h.but.trans (But3.of_below hb)⟩
/-- 'a := append(l, m, ..)': all stays. -/
theorem St.push {Sh : List Value → Prop} {w0 w w' : World} {B B1 go gm tT e eb m f : Nat} {oc mk : List Value} {ad : Option Addr} {N cap : Nat} {a4 : Option Addr} {c4 : Nat} {L : List Bk} (h : St Sh w0 w B B1 go gm tT e eb m f oc mk ad N cap a4 c4 L) (hk : Kp (ad.map (·.block)) mk w w')
    (h1 : e ≠ tT) (h2 : e ≠ eb) (hB : B ≤ w.heap.size) : St Sh w0 w' B B1 go gm tT e eb m f oc mk ad N cap a4 c4 L := by
  refine ⟨h.o.kp hk (h.o.apart h.l h1), h.k.kp hk ?_, h.l.kp h.mark hk (fun _ _ _ => rfl), h.b.kpo hk (fun b hb hb' => ?_), fun x hx => ?_, h.at_, h.mark, h.low, h.big, h.apt, hk.below h.old hB (fun k e => Nat.le_trans h.big (h.l.typed k e).1), h.but.trans (But3.of_kp hk fun k e => ?_)⟩
  · intro e; cases ad with
    | none => cases e
    | some b => simp at e; exact h.apt b rfl e
  · exact h.b.apart h.l (fun e => h2 e.symm) b hb hb'
  · obtain ⟨h3, h4⟩ := h.each x hx
    refine ⟨⟨h3.len, h3.vec.kp h3.len hk (fun b hb hb' => ?_), h3.few, h3.shape⟩, h4⟩
    rcases h4 with h4 | h4
    · have := (h.l.typed _ hb').1; have := h4 b hb; omega
    · exact h4
  · obtain ⟨_, cur, hc⟩ := h.l.typed k e; exact ⟨cur, _, hc, Or.inl rfl⟩
/-- 'o.l = append(o.l, book{..})': one book more. -/
theorem St.book {Sh : List Value → Prop} {w0 w w' : World} {B B1 go gm tT e eb m f : Nat} {oc mk : List Value} {ad : Option Addr} {N cap : Nat} {a4 : Option Addr} {c4 : Nat} {L : List Bk} (h : St Sh w0 w B B1 go gm tT e eb m f oc mk ad N cap a4 c4 L) {x : Bk} {a5 : Option Addr} {c5 : Nat}
    (hv : Vec w' B eb (m + 1) a5 (L.length + 1) c5 (bcells L ++ x.cells)) (hk : Kp (a4.map (·.block)) x.cells w w') (hx : Reads1 Sh w B e m x) (hm : x.mrk = mk) (h1 : eb ≠ tT) (h2 : e ≠ eb) (h3 : e ≠ tT) (hf : f < oc.length) (hB : B ≤ w.heap.size) :
    St Sh w0 (w'.setCell ⟨go, f, none⟩ (.slice a5 (L.length + 1) c5)) B B1 go gm tT e eb m f (oc.set f (.slice a5 (L.length + 1) c5)) mk ad N cap a5 c5 (L ++ [x]) := by
  have hu : Upd go w' (w'.setCell ⟨go, f, none⟩ (.slice a5 (L.length + 1) c5)) := (Upd.refl go w').setCell _ rfl _
  have ho : Bx w' go tT oc := h.o.kp hk (h.o.apart h.b h1)
  have hkk : Bx w' gm e mk := h.k.kp hk (h.k.apart h.b (fun e => h2 e.symm))
  have hl : Vec w' B1 e m ad N cap (rep N mk) := h.l.kpo hk (fun b hb hb' => h.l.apart h.b h2 b hb hb')
  have hgo : gm ≠ go := by
    intro e1; have a := hkk.h; have b := ho.h; rw [e1, b] at a; simp at a; exact h3 a.2.symm
  have each : ∀ y, Reads1 Sh w B e m y → Reads1 Sh (w'.setCell ⟨go, f, none⟩ (.slice a5 (L.length + 1) c5)) B e m y := fun y hy => by
    have := hy.vec.kpo hk (fun b hb hb' => hy.vec.apart h.b h2 b hb hb')
    exact ⟨hy.len, this.updo hu (fun b hb e1 => ho.apart this h3 (by rw [hb]; simp [e1])), hy.few, hy.shape⟩
  refine ⟨ho.setCell f _, hkk.upd hu hgo, hl.updo hu (fun b hb e1 => ho.apart hl h3 (by rw [hb]; simp [e1])), ?_, fun y hy => ?_, ?_, h.mark, h.low, h.big, h.apt, ?_, ?_⟩
  · rw [bcells_snoc, List.length_append]
    exact hv.updo hu (fun b hb e1 => ho.apart hv h1 (by rw [hb]; simp [e1]))
  · rcases List.mem_append.1 hy with hy | hy
    · exact ⟨each y (h.each y hy).1, (h.each y hy).2⟩
    · simp at hy; subst hy; exact ⟨each _ hx, Or.inr hm⟩
  · simp [hf]
  · exact hu.below (hk.below h.old hB (fun k e => (h.b.typed k e).1)) h.low
  · exact (h.but.trans (But3.of_kp hk fun k e1 => by obtain ⟨_, cur, hc⟩ := h.b.typed k e1; exact ⟨cur, _, hc, Or.inr rfl⟩)).trans (But3.of_upd hu (Or.inl rfl))
end Go.Proofs.Ytdjpkgaicmklmab

/- linkOf of the program: walked. -/
namespace Go.Proofs.Ytdjpkgaicmklmab
open Go.RowKit

set_option maxRecDepth 100000 in
set_option maxHeartbeats 4000000 in
theorem linkOf_any (l : List Fd) (ad : Option Addr) (N cap : Nat) (w : World) (hN : N = l.length) (hl : Lies w ad N 9 (fun i => (l.getD i fd0).cells)) (ho : Ordered l) (hNb : N ≤ 1099511627776) :
    Calls Try.prog 61 #[.slice ad N cap] w fun e w' => ∃ a1 n1 c1 a2 n2 c2 a3 n3 c3, e = .returned (.agg (lnkC (l.getD 0 fd0).seq (l.getD 0 fd0).base a1 n1 c1 a2 n2 c2 a3 n3 c3).toArray) ∧ Three w' w.heap.size l a1 n1 c1 a2 n2 c2 a3 n3 c3 ∧ Below w.heap.size w w' := by
  obtain ⟨hR0, hL0, hs2, hb0⟩ := two_boxes w 45 45 (lnkC 0 0 none 0 0 none 0 0 none 0 0).toArray (lnkC 0 0 none 0 0 none 0 0 none 0 0).toArray
  have HN : Hid (N = l.length) := hN
  have HO : Hid (Ordered l) := ho
  clear hN ho
  have HS : Hid (∃ a1 n1 c1 a2 n2 c2 a3 n3 c3, a1 = some ⟨w.heap.size + 2, 0, none⟩ ∧ n1 = 0 ∧ c1 = 0 ∧ a2 = some ⟨w.heap.size + 3, 0, none⟩ ∧ n2 = 0 ∧ c2 = 0 ∧ a3 = some ⟨w.heap.size + 4, 0, none⟩ ∧ n3 = 0 ∧ c3 = 0 ∧
      Three (((((w.alloc (.cells (lnkC 0 0 none 0 0 none 0 0 none 0 0).toArray 45)).alloc (.cells (lnkC 0 0 none 0 0 none 0 0 none 0 0).toArray 45)).alloc (.cells #[] 72)).alloc (.cells #[] 68)).alloc (.cells #[] 61)) (w.heap.size + 2) [] a1 n1 c1 a2 n2 c2 a3 n3 c3 ∧
      Bx (((((w.alloc (.cells (lnkC 0 0 none 0 0 none 0 0 none 0 0).toArray 45)).alloc (.cells (lnkC 0 0 none 0 0 none 0 0 none 0 0).toArray 45)).alloc (.cells #[] 72)).alloc (.cells #[] 68)).alloc (.cells #[] 61)) w.heap.size 45 (lnkC 0 0 none 0 0 none 0 0 none 0 0) ∧
      Bx (((((w.alloc (.cells (lnkC 0 0 none 0 0 none 0 0 none 0 0).toArray 45)).alloc (.cells (lnkC 0 0 none 0 0 none 0 0 none 0 0).toArray 45)).alloc (.cells #[] 72)).alloc (.cells #[] 68)).alloc (.cells #[] 61)) (w.heap.size + 1) 45 (lnkC 0 0 none 0 0 none 0 0 none 0 0) ∧
      Below w.heap.size w (((((w.alloc (.cells (lnkC 0 0 none 0 0 none 0 0 none 0 0).toArray 45)).alloc (.cells (lnkC 0 0 none 0 0 none 0 0 none 0 0).toArray 45)).alloc (.cells #[] 72)).alloc (.cells #[] 68)).alloc (.cells #[] 61)) ∧
      w.heap.size + 2 ≤ (((((w.alloc (.cells (lnkC 0 0 none 0 0 none 0 0 none 0 0).toArray 45)).alloc (.cells (lnkC 0 0 none 0 0 none 0 0 none 0 0).toArray 45)).alloc (.cells #[] 72)).alloc (.cells #[] 68)).alloc (.cells #[] 61)).heap.size) := by
    have q1 := Vec.lit ((w.alloc (.cells (lnkC 0 0 none 0 0 none 0 0 none 0 0).toArray 45)).alloc (.cells (lnkC 0 0 none 0 0 none 0 0 none 0 0).toArray 45)) (w.heap.size + 2) 72 2 0 [] (Nat.le_of_eq hs2.symm) (by omega) rfl
    have q2 := Vec.lit (((w.alloc (.cells (lnkC 0 0 none 0 0 none 0 0 none 0 0).toArray 45)).alloc (.cells (lnkC 0 0 none 0 0 none 0 0 none 0 0).toArray 45)).alloc (.cells #[] 72)) (w.heap.size + 2) 68 5 0 [] (by rw [World.size_alloc, hs2]; omega) (by omega) rfl
    have q3 := Vec.lit ((((w.alloc (.cells (lnkC 0 0 none 0 0 none 0 0 none 0 0).toArray 45)).alloc (.cells (lnkC 0 0 none 0 0 none 0 0 none 0 0).toArray 45)).alloc (.cells #[] 72)).alloc (.cells #[] 68)) (w.heap.size + 2) 61 2 0 [] (by rw [World.size_alloc, World.size_alloc, hs2]; omega) (by omega) rfl
    rw [hs2] at q1
    rw [World.size_alloc, hs2] at q2
    rw [World.size_alloc, World.size_alloc, hs2] at q3
    refine ⟨_, 0, 0, _, 0, 0, _, 0, 0, rfl, rfl, rfl, rfl, rfl, rfl, rfl, rfl, rfl, ⟨?_, ?_, q3, rfl, rfl, rfl⟩, ((hR0.alloc _).alloc _).alloc _, ((hL0.alloc _).alloc _).alloc _, ((hb0.alloc (by rw [hs2]; omega) _).alloc (by rw [World.size_alloc, hs2]; omega) _).alloc (by rw [World.size_alloc, World.size_alloc, hs2]; omega) _, by rw [World.size_alloc, World.size_alloc, World.size_alloc, hs2]; omega⟩
    · exact (q1.keep ((Below.refl _ _).alloc (Nat.le_refl _) _)).keep ((Below.refl _ _).alloc (Nat.le_refl _) _)
    · exact q2.keep ((Below.refl _ _).alloc (Nat.le_refl _) _)
  clear hR0 hL0 hs2 hb0
  go_enter Try.func61, Try.ntmps61
  go_wp2_with fail
  go_loopw [4, 5, 6, 7, 8] (fun x1 x2 x3 u _ wr => ∃ (i : Nat) (a1 : Option Addr) (n1 c1 : Nat) (a2 : Option Addr) (n2 c2 : Nat) (a3 : Option Addr) (n3 c3 : Nat), i ≤ N ∧ u = .int .i64 i ∧ x1 = .slice a1 n1 c1 ∧ x2 = .slice a2 n2 c2 ∧ x3 = .slice a3 n3 c3 ∧
    Bx wr (w.heap.size + 1) 45 (lnkC (if i = 0 then 0 else (l.getD 0 fd0).seq) (if i = 0 then 0 else (l.getD 0 fd0).base) none 0 0 none 0 0 none 0 0) ∧ Three wr (w.heap.size + 2) (l.take i) a1 n1 c1 a2 n2 c2 a3 n3 c3 ∧ Bx wr w.heap.size 45 (lnkC 0 0 none 0 0 none 0 0 none 0 0) ∧ w.heap.size + 2 ≤ wr.heap.size ∧ Below w.heap.size w wr) (fun _ _ _ u _ _ => N - (intOf u).toNat)
  case atStart =>
    obtain ⟨_, _, _, _, _, _, _, _, _, rfl, rfl, rfl, rfl, rfl, rfl, rfl, rfl, rfl, t, r1, r2, bb, zz⟩ := HS.out
    exact ⟨0, _, _, _, _, _, _, _, _, _, Nat.zero_le _, rfl, rfl, rfl, rfl, r2, by rw [List.take_zero]; exact t, r1, zz, bb⟩
  case round =>
    clear HS
    obtain ⟨i, a1, n1, c1, a2, n2, c2, a3, n3, c3, hi, rfl, rfl, rfl, rfl, hL, hT, hR, hz, hB⟩ := hrel
    have q1 : n1 ≤ 1099511627776 := by rw [hT.e1]; have := ckOf_le (l.take i); simp at this; omega
    have q2 : n2 ≤ 1099511627776 := by rw [hT.e2]; have := cdOf_le (l.take i); simp at this; omega
    have q3 : n3 ≤ 1099511627776 := by rw [hT.e3]; have := edOf_le (l.take i); simp at this; omega
    have HAL : Hid (∀ o1 o2, Below wr.heap.size wr ((wr.alloc o1).alloc o2)) := fun o1 o2 => ((Below.refl _ wr).alloc (Nat.le_refl _) _).alloc (by simp) _
    have HAL2 : Hid (∀ {g e : Nat} {cs : List Value} {o1 o2 : Obj}, Bx wr g e cs → Bx ((wr.alloc o1).alloc o2) g e cs) := fun h => (h.alloc _).alloc _
    by_cases hlt : i < N
    · have hil : i < l.length := by rw [← HN.out]; exact hlt
      obtain ⟨b, o, hbl, hix, c0', c1', c2', c3', c4', c5', c6', c7', c8'⟩ := (hl.below hB).found cap hlt
      have HTK : Hid (l.take (i + 1) = l.take i ++ [l.getD i fd0]) := by
        show _ = _; rw [List.take_add_one, List.getElem?_eq_getElem hil]; simp [List.getD, hil]
      have hkd : (i = 0 ∧ (l.getD i fd0).kind = 4) ∨ (0 < i ∧ ((l.getD i fd0).kind = 1 ∨ (l.getD i fd0).kind = 2 ∨ (l.getD i fd0).kind = 3)) := by
        by_cases h0 : i = 0
        · subst h0; exact Or.inl ⟨rfl, HO.out.first⟩
        · exact Or.inr ⟨by omega, HO.out.rest i (by omega) hil⟩
      rcases hkd with ⟨hi0, hfk⟩ | ⟨hi0, hfk⟩
      · subst hi0
        have hix0 : ∀ w', (Instr.indexAt 93 (.slice ad N cap) (.int .i64 0)).run Try.prog w' = .ok (.pointer (some ⟨b, o, none⟩)) w' := hix
        generalize hgf : l.getD 0 fd0 = f at *
        have HFK : Hid (f.kind = 4) := hfk
        have kb : (f.kind == 4) = true := by rw [hfk]; rfl
        simp only [↓reduceIte] at hL
        have hT2 : Three wr (w.heap.size + 2) (l.take 1) a1 n1 c1 a2 n2 c2 a3 n3 c3 := by rw [HTK.out]; exact hT.head hfk
        have al1 : ∀ o, Below wr.heap.size wr (wr.alloc o) := fun o => (Below.refl _ wr).alloc (Nat.le_refl _) _
        have hLx := hL.alloc (.cells f.cells.toArray 117)
        have hRx := hR.alloc (.cells f.cells.toArray 117)
        have hTx := hT2.keep (al1 (.cells f.cells.toArray 117))
        have hBx := hB.trans ((al1 (.cells f.cells.toArray 117)).mono hB.size)
        have hzx : w.heap.size + 2 ≤ (wr.alloc (.cells f.cells.toArray 117)).heap.size := by simp; omega
        have hFx := Bx.new wr 117 f.cells.toArray
        clear hfk hgf
        go_wp2_with (first
          | (refine wpList_bget (by rfl) 3 _ (by rfl) wr.heap.size 117 _ (by rfl) _ hFx _ (by rfl) _ Try.underlying3 (by rfl) ?_)
          | (refine wpList_bput (by rfl) _ _ 3 (by rfl) (w.heap.size + 1) 45 _ (by rfl) _ (.int .i64 _) (by rfl) hLx (by kernel_rfl) (by simp) (by rfl) (by rfl) ?_; intro w9 hL9 hU9; replace hLx := hL9; replace hTx := hTx.upd hU9 (by omega); replace hRx := hRx.upd hU9 (by omega); replace hFx := hFx.upd hU9 (by omega); replace hBx := hU9.below hBx (by omega); replace hzx : w.heap.size + 2 ≤ w9.heap.size := (by rw [hU9.size]; exact hzx); clear hL9 hU9; dsimp only [List.set] at hLx))
        go_roundw
        case rel => exact ⟨1, a1, n1, c1, a2, n2, c2, a3, n3, c3, by omega, by go_num, rfl, rfl, rfl, hLx, hTx, hRx, hzx, hBx⟩
        case measure => simp [intOf]; omega
      · have hi1 : ¬ i = 0 := by omega
        simp only [if_neg hi1] at hL
        generalize hgf : l.getD i fd0 = f at *
        clear hgf
        rcases hfk with hfk | hfk | hfk
        · have k4 : (f.kind == 4) = false := by rw [hfk]; rfl
          have k1 : (f.kind == 1) = true := by rw [hfk]; rfl
          go_wp2_with (at_builtin; refine wpList_pushk (by rfl) _ _ 24 (by rfl) (w.heap.size + 2) 72 2 16 (.agg #[.int .i64 0, .int .i64 0]) Try.underlying24 (by kernel_rfl) rfl (by decide) a1 n1 c1 _ (by rfl) ((hT.keep (HAL.out _ _)).v1) _ 1 1 (Ck.mk f.site f.count).cells (by rfl) rfl ?_ ?_ ?_ ?_ ?_ ?_ ?_; (rw [rep_one]; exact new_cells2 _ _ _ _); (intro v h; simp at h; rcases h with rfl | rfl <;> rfl); (omega); (omega); (omega); (simp; omega); intro ad' cap' w' hv' hk')
          have hT2 := (hT.keep (HAL.out _ _)).push1 hfk hv' hk'
          have hb2 : Below w.heap.size w w' := hk'.below ((hB.alloc hB.size _).alloc (by have := hB.size; simp; omega) _) (by have := hB.size; simp; omega) (fun q e => by have := (hT.v1.typed q e).1; omega)
          have hR2 := (HAL2.out hR).kp hk' (hR.apart hT.v1 (by decide))
          have hL2 := (HAL2.out hL).kp hk' (hL.apart hT.v1 (by decide))
          have hsz2 : w.heap.size + 2 ≤ w'.heap.size := by have := hk'.size; simp at this; omega
          rw [← HTK.out] at hT2
          go_roundw
          case rel => exact ⟨i + 1, ad', (n1 + 1), cap', a2, n2, c2, a3, n3, c3, by omega, by go_num, rfl, rfl, rfl, by simpa [hi0] using hL2, hT2, hR2, hsz2, hb2⟩
          case measure => simp [intOf]; omega

        · have k4 : (f.kind == 4) = false := by rw [hfk]; rfl
          have k1 : (f.kind == 1) = false := by rw [hfk]; rfl
          have k2 : (f.kind == 2) = true := by rw [hfk]; rfl
          go_wp2_with (at_builtin; refine wpList_pushk (by rfl) _ _ 25 (by rfl) (w.heap.size + 2) 68 5 48 (.agg #[.int .i64 0, .int .i64 0, .int .i64 0, .bool false, .string ⟨#[]⟩]) Try.underlying25 (by kernel_rfl) rfl (by decide) a2 n2 c2 _ (by rfl) ((hT.keep (HAL.out _ _)).v2) _ 1 1 (Cd.mk f.id f.site f.count f.gone f.text).cells (by rfl) rfl ?_ ?_ ?_ ?_ ?_ ?_ ?_; (rw [rep_one]; exact new_cells2 _ _ _ _); (intro v h; simp at h; rcases h with rfl | rfl | rfl | rfl | rfl <;> rfl); (omega); (omega); (omega); (simp; omega); intro ad' cap' w' hv' hk')
          have hT2 := (hT.keep (HAL.out _ _)).push2 hfk hv' hk'
          have hb2 : Below w.heap.size w w' := hk'.below ((hB.alloc hB.size _).alloc (by have := hB.size; simp; omega) _) (by have := hB.size; simp; omega) (fun q e => by have := (hT.v2.typed q e).1; omega)
          have hR2 := (HAL2.out hR).kp hk' (hR.apart hT.v2 (by decide))
          have hL2 := (HAL2.out hL).kp hk' (hL.apart hT.v2 (by decide))
          have hsz2 : w.heap.size + 2 ≤ w'.heap.size := by have := hk'.size; simp at this; omega
          rw [← HTK.out] at hT2
          go_roundw
          case rel => exact ⟨i + 1, a1, n1, c1, ad', (n2 + 1), cap', a3, n3, c3, by omega, by go_num, rfl, rfl, rfl, by simpa [hi0] using hL2, hT2, hR2, hsz2, hb2⟩
          case measure => simp [intOf]; omega

        · have k4 : (f.kind == 4) = false := by rw [hfk]; rfl
          have k1 : (f.kind == 1) = false := by rw [hfk]; rfl
          have k2 : (f.kind == 2) = false := by rw [hfk]; rfl
          have k3 : (f.kind == 3) = true := by rw [hfk]; rfl
          go_wp2_with (at_builtin; refine wpList_pushk (by rfl) _ _ 26 (by rfl) (w.heap.size + 2) 61 2 24 (.agg #[.int .i64 0, .string ⟨#[]⟩]) Try.underlying26 (by kernel_rfl) rfl (by decide) a3 n3 c3 _ (by rfl) ((hT.keep (HAL.out _ _)).v3) _ 1 1 (Ed.mk f.id f.text).cells (by rfl) rfl ?_ ?_ ?_ ?_ ?_ ?_ ?_; (rw [rep_one]; exact new_cells2 _ _ _ _); (intro v h; simp at h; rcases h with rfl | rfl <;> rfl); (omega); (omega); (omega); (simp; omega); intro ad' cap' w' hv' hk')
          have hT2 := (hT.keep (HAL.out _ _)).push3 hfk hv' hk'
          have hb2 : Below w.heap.size w w' := hk'.below ((hB.alloc hB.size _).alloc (by have := hB.size; simp; omega) _) (by have := hB.size; simp; omega) (fun q e => by have := (hT.v3.typed q e).1; omega)
          have hR2 := (HAL2.out hR).kp hk' (hR.apart hT.v3 (by decide))
          have hL2 := (HAL2.out hL).kp hk' (hL.apart hT.v3 (by decide))
          have hsz2 : w.heap.size + 2 ≤ w'.heap.size := by have := hk'.size; simp at this; omega
          rw [← HTK.out] at hT2
          go_roundw
          case rel => exact ⟨i + 1, a1, n1, c1, a2, n2, c2, ad', (n3 + 1), cap', by omega, by go_num, rfl, rfl, rfl, by simpa [hi0] using hL2, hT2, hR2, hsz2, hb2⟩
          case measure => simp [intOf]; omega

    · have hi3 : i = N := by omega
      subst hi3
      have hi1 : ¬ i = 0 := by have := HO.out.some_; have := HN.out; omega
      simp only [if_neg hi1] at hL
      rw [List.take_of_length_le (by rw [← HN.out]; exact Nat.le_refl _)] at hT
      go_wp2_with (first
        | (refine wpList_bputs (by rfl) _ _ 28 (by rfl) (w.heap.size + 1) 45 2 (by rfl) _ [.slice a1 n1 c1, .slice a2 n2 c2, .slice a3 n3 c3] (by rfl) hL 3 (by rfl) (by kernel_rfl) (by simp) (by intro x hx; simp at hx; rcases hx with rfl | rfl | rfl <;> rfl) ?_; intro w9 hL9 hU9; replace hR := hR.upd hU9 (by omega); replace hT := hT.upd hU9 (by omega); replace hB := hU9.below hB (by omega); clear hU9; dsimp only [List.take, List.drop, List.cons_append, List.nil_append] at hL9)
        | (refine wpList_bload (by rfl) _ _ (by rfl) (w.heap.size + 1) 45 (by rfl) _ hL9 _ Try.underlying45 (by rfl) 5 (by rfl) (by kernel_rfl) ?_)
        | (refine wpList_bstore (by rfl) _ _ _ (by rfl) w.heap.size 45 (by rfl) _ _ (by rfl) hR 5 (by rfl) (by kernel_rfl) (by rfl) (by intro x hx; simp at hx; rcases hx with rfl | rfl | rfl | rfl | rfl <;> rfl) ?_; intro w8 hR9 hU9; replace hT := hT.upd hU9 (by omega); replace hB := hU9.below hB (by omega); clear hU9))
      exact bodyPost_ret (v := .agg (lnkC (l.getD 0 fd0).seq (l.getD 0 fd0).base a1 n1 c1 a2 n2 c2 a3 n3 c3).toArray) (results_box1 (by rfl) _ _ w.heap.size 45 _ _ (by rfl) hR9 Try.underlying45 (by rfl) 5 (by rfl) (by kernel_rfl)) rfl ⟨a1, _, c1, a2, _, c2, a3, _, c3, rfl, ⟨hT.v1.mono (by omega), hT.v2.mono (by omega), hT.v3.mono (by omega), hT.e1, hT.e2, hT.e3⟩, hB⟩
end Go.Proofs.Ytdjpkgaicmklmab

/- Read of the program: walked. -/
namespace Go.Proofs.Ytdjpkgaicmklmab
open Go.RowKit

/-- Three lists in memory. -/
structure Lists (w : World) (B : Nat) (K : List Ck) (C : List Cd) (E : List Ed) (a1 : Option Addr) (n1 c1 : Nat) (a2 : Option Addr) (n2 c2 : Nat) (a3 : Option Addr) (n3 c3 : Nat) : Prop where
  v1 : Vec w B 72 2 a1 n1 c1 (kcells K)
  v2 : Vec w B 68 5 a2 n2 c2 (ccells C)
  v3 : Vec w B 61 2 a3 n3 c3 (ecells E)
  e1 : n1 = K.length
  e2 : n2 = C.length
  e3 : n3 = E.length
theorem Lists.nil (w : World) (B : Nat) : Lists w B [] [] [] none 0 0 none 0 0 none 0 0 := ⟨Vec.nil _ _ _ _, Vec.nil _ _ _ _, Vec.nil _ _ _ _, rfl, rfl, rfl⟩
theorem Lists.keep {w w' : World} {B : Nat} {K : List Ck} {C : List Cd} {E : List Ed} {a1 : Option Addr} {n1 c1 : Nat} {a2 : Option Addr} {n2 c2 : Nat} {a3 : Option Addr} {n3 c3 : Nat} (h : Lists w B K C E a1 n1 c1 a2 n2 c2 a3 n3 c3) (hb : Below w.heap.size w w') : Lists w' B K C E a1 n1 c1 a2 n2 c2 a3 n3 c3 := ⟨h.v1.keep hb, h.v2.keep hb, h.v3.keep hb, h.e1, h.e2, h.e3⟩
theorem Lists.mono {w : World} {B B' : Nat} {K : List Ck} {C : List Cd} {E : List Ed} {a1 : Option Addr} {n1 c1 : Nat} {a2 : Option Addr} {n2 c2 : Nat} {a3 : Option Addr} {n3 c3 : Nat} (h : Lists w B K C E a1 n1 c1 a2 n2 c2 a3 n3 c3) (hb : B' ≤ B) : Lists w B' K C E a1 n1 c1 a2 n2 c2 a3 n3 c3 := ⟨h.v1.mono hb, h.v2.mono hb, h.v3.mono hb, h.e1, h.e2, h.e3⟩
theorem Lists.upd {w w' : World} {B g : Nat} {K : List Ck} {C : List Cd} {E : List Ed} {a1 : Option Addr} {n1 c1 : Nat} {a2 : Option Addr} {n2 c2 : Nat} {a3 : Option Addr} {n3 c3 : Nat} (h : Lists w B K C E a1 n1 c1 a2 n2 c2 a3 n3 c3) (hu : Upd g w w') (hg : g < B) : Lists w' B K C E a1 n1 c1 a2 n2 c2 a3 n3 c3 := ⟨h.v1.upd hu hg, h.v2.upd hu hg, h.v3.upd hu hg, h.e1, h.e2, h.e3⟩
theorem Three.lists {w : World} {B : Nat} {l : List Fd} {a1 : Option Addr} {n1 c1 : Nat} {a2 : Option Addr} {n2 c2 : Nat} {a3 : Option Addr} {n3 c3 : Nat} (h : Three w B l a1 n1 c1 a2 n2 c2 a3 n3 c3) : Lists w B (ckOf l) (cdOf l) (edOf l) a1 n1 c1 a2 n2 c2 a3 n3 c3 := ⟨h.v1, h.v2, h.v3, h.e1, h.e2, h.e3⟩
/-- What a Read returns. -/
def ReadAns (x : Ans) (B : Nat) (e : Ending) (w' : World) : Prop := ∃ a1 n1 c1 a2 n2 c2 a3 n3 c3, e = .returned (.tuple #[.agg (lnkC x.seq x.base a1 n1 c1 a2 n2 c2 a3 n3 c3).toArray, .int .i64 x.err, .int .i64 x.place]) ∧ Lists w' B x.K x.C x.E a1 n1 c1 a2 n2 c2 a3 n3 c3
theorem frF_at : ∀ (k i : Nat) (s : List UInt8), ∀ f ∈ (frF k i s).1, (i : Int) ≤ f.at_
  | 0, _, _, f, h => by simp [frF] at h
  | k + 1, i, s, f, h => by
    by_cases hs : s = []
    · subst hs; simp [frF] at h
    · cases hst : standRd s with
      | none => rw [frF_none hst] at h; cases h
      | some p =>
        obtain ⟨g, n⟩ := p
        rw [frF_some hs hst] at h
        rcases List.mem_cons.1 h with rfl | h
        · exact Int.le_refl _
        · have := frF_at k (i + n) (s.drop n) f h; omega
theorem ordF_mem : ∀ (l : List Fd) (p : Fd) (q : Int), ordF p l = some q → ∃ f ∈ l, f.at_ = q
  | [], _, _, h => by cases h
  | f :: l, p, q, h => by
    simp only [ordF] at h
    split at h
    · obtain ⟨g, hg, he⟩ := ordF_mem l f q h; exact ⟨g, List.mem_cons_of_mem _ hg, he⟩
    · simp at h; exact ⟨f, List.mem_cons_self .., h⟩
theorem ordRd_ne {k : Nat} {s : List UInt8} {q : Int} (h : ordRd (frF k 4 s).1 = some q) : 4 ≤ q := by
  have ha := frF_at k 4 s
  cases hl : (frF k 4 s).1 with
  | nil => rw [hl] at h; simp [ordRd] at h; omega
  | cons f l =>
    rw [hl] at h ha
    simp only [ordRd] at h
    split at h
    · obtain ⟨g, hg, rfl⟩ := ordF_mem l f q h; exact ha g (List.mem_cons_of_mem _ hg)
    · simp at h; subst h; exact ha f (List.mem_cons_self ..)

set_option maxRecDepth 100000 in
set_option maxHeartbeats 4000000 in
theorem bread_any (b : List UInt8) (w : World) (hb : b.length ≤ 1099511627776) :
    Calls Try.prog 35 #[.string (str b)] w fun e w' => ReadAns (readRd b) w.heap.size e w' ∧ Below w.heap.size w w' := by
  have hz := str_size b
  have HZ : Hid ((str b).size = b.length) := hz
  obtain ⟨hR, hW, hB⟩ := one_box w 45 (lnkC 0 0 none 0 0 none 0 0 none 0 0).toArray
  have hbb : (str b).size ≤ 1099511627776 := by omega
  have hx4 : (str b).extract 0 4 = str (b.take 4) := by rw [str_extract]; simp
  by_cases h4 : (str b).size < 4
  · have HN : Hid (readRd b = ansErr 7 0) := by show _ = _; unfold readRd; rw [if_pos (Or.inl (by omega))]
    clear hz
    go_enter Try.func35, Try.ntmps35
    go_wp2_with fail
    exact bodyPost_ret (v := .tuple #[.agg (lnkC 0 0 none 0 0 none 0 0 none 0 0).toArray, .int .i64 7, .int .i64 0]) (results_box3 (by rfl) _ _ w.heap.size 45 _ _ _ _ (by rfl) hR (by rfl) (by rfl) Try.underlying45 (by rfl) 5 (by rfl) (by kernel_rfl)) rfl ⟨by rw [HN.out]; exact ⟨none, 0, 0, none, 0, 0, none, 0, 0, rfl, Lists.nil _ _⟩, hB⟩
  · by_cases hm : b.take 4 = magicB
    · have hmk : ((str (b.take 4)).toList == [80, 82, 67, 49]) = true := by rw [str_toList, hm]; rfl
      have HC : Hid (readRd b = if sealedB b = true then
          if (framed (b.take (b.length - 4))).2 < b.length - 4 then ansErr 9 (framed (b.take (b.length - 4))).2
          else match ordRd (framed (b.take (b.length - 4))).1 with
            | some p => ansErr 10 p
            | none => ansOk (framed (b.take (b.length - 4))).1
        else ansErr 8 0) := by show _ = _; unfold readRd; rw [if_neg (by rintro (h | h); (omega); exact h hm)] <;> rfl
      clear hm
      go_enter Try.func35, Try.ntmps35
      clear hz
      go_wp2_with fail
      refine (sealed_any b _ (by have := HZ.out; omega)).mono ?_
      rintro e w1 ⟨rfl, hb1⟩
      replace hR := hR.below hb1 hR.lt
      replace hB := hB.trans (hb1.mono (Nat.le_trans (Nat.le_succ _) (Nat.le_of_eq hW.symm)))
      clear hb1 hW
      cases hse : sealedB b with
      | false =>
        have HN : Hid (readRd b = ansErr 8 0) := by show _ = _; rw [HC.out, hse]; rfl
        clear HC hse
        go_wp2_with (refine wpList_bstore (by rfl) _ _ _ (by rfl) w.heap.size 45 (by rfl) _ _ (by rfl) hR 5 (by rfl) (by kernel_rfl) (by rfl) (by intro x hx; simp at hx; rcases hx with rfl | rfl | rfl | rfl | rfl <;> rfl) ?_; intro w9 hR9 hU9; replace hR := hR9; replace hB := hU9.below hB (Nat.le_refl _); clear hR9; clear hU9)
        exact bodyPost_ret (v := .tuple #[.agg (lnkC 0 0 none 0 0 none 0 0 none 0 0).toArray, .int .i64 8, .int .i64 0]) (results_box3 (by rfl) _ _ w.heap.size 45 _ _ _ _ (by rfl) hR (by rfl) (by rfl) Try.underlying45 (by rfl) 5 (by rfl) (by kernel_rfl)) rfl ⟨by rw [HN.out]; exact ⟨none, 0, 0, none, 0, 0, none, 0, 0, rfl, Lists.nil _ _⟩, hB⟩
      | true =>
        rw [hse, if_pos rfl] at HC
        have h8 : 8 ≤ b.length := by
          unfold sealedB at hse; simp at hse; exact hse.1
        obtain ⟨n, hn⟩ : ∃ n, (str b).size = n + 4 := ⟨(str b).size - 4, by omega⟩
        have hbl : b.length - 4 = n := by have := HZ.out; omega
        rw [hbl] at HC
        have hx1 : (str b).extract 0 n = str (b.take n) := by rw [str_extract]; simp
        have hsub : ((n : Int) + 4 - 4) = (n : Int) := by omega
        have hle2 : (n : Int) ≤ (n : Int) + 4 := by omega
        have hnl : (b.take n).length = n := by simp; omega
        have hzn : (str (b.take n)).size = n := by rw [str_size, hnl]
        have h4n : 4 ≤ n := by have := HZ.out; omega
        have hfst := frF_first (b.take n).length 4 ((b.take n).drop 4)
        have hkd := frF_kd (b.take n).length 4 ((b.take n).drop 4)
        have hlen := frF_length (b.take n).length 4 ((b.take n).drop 4)
        have hle := (frF_le (b.take n).length 4 ((b.take n).drop 4)).2
        have hne : ∀ q, ordRd (framed (b.take n)).1 = some q → 4 ≤ q := fun q h => ordRd_ne h
        have HF : Hid ((∀ f ∈ (framed (b.take n)).1, Kd f) ∧ (∀ f r, (framed (b.take n)).1 = f :: r → f.at_ = 4) ∧ (framed (b.take n)).1.length ≤ n ∧ (framed (b.take n)).2 ≤ n ∧ (∀ q, ordRd (framed (b.take n)).1 = some q → 4 ≤ q)) := ⟨hkd, fun f r h => hfst f r h, by rw [hnl] at hlen; exact Nat.le_trans hlen (Nat.le_refl _) |> fun h => by unfold framed; rw [hnl]; exact h, by unfold framed; simp only [List.length_drop, hnl] at hle ⊢; omega, hne⟩
        have HNL : Hid ((b.take n).length = n) := hnl
        clear hse hbl hnl hfst hkd hlen hle hne h4 hmk hx4
        go_wp2_with fail
        refine (framesOf_any (b.take n) _ (by rw [HNL.out]; omega) (by rw [HNL.out]; omega)).mono ?_
        rintro e w2 ⟨ad, cap, N, rfl, hN, hv, hb2⟩
        replace hR := hR.below hb2 hR.lt
        have hz1 := hB.size
        have hvl := fvec_lies hv hN
        have HN2 : Hid (N = (framed (b.take n)).1.length) := hN
        have hNb : N ≤ n := by rw [hN]; exact HF.out.2.2.1
        replace hB := hB.trans (hb2.mono hB.size)
        clear hv hN hb2 hz1
        generalize hfr : framed (b.take n) = X at *
        obtain ⟨l, st⟩ := X
        clear hfr
        have hst : st ≤ n := HF.out.2.2.2.1
        simp only at HC
        by_cases hlt : st < n
        · have HN : Hid (readRd b = ansErr 9 st) := by show _ = _; rw [HC.out, if_pos hlt]
          clear HC hst
          go_wp2_with (refine wpList_bstore (by rfl) _ _ _ (by rfl) w.heap.size 45 (by rfl) _ _ (by rfl) hR 5 (by rfl) (by kernel_rfl) (by rfl) (by intro x hx; simp at hx; rcases hx with rfl | rfl | rfl | rfl | rfl <;> rfl) ?_; intro w9 hR9 hU9; replace hR := hR9; replace hB := hU9.below hB (Nat.le_refl _); clear hR9; clear hU9)
          exact bodyPost_ret (v := .tuple #[.agg (lnkC 0 0 none 0 0 none 0 0 none 0 0).toArray, .int .i64 9, .int .i64 (st : Int)]) (results_box3 (by rfl) _ _ w.heap.size 45 _ _ _ _ (by rfl) hR (by rfl) (by rfl) Try.underlying45 (by rfl) 5 (by rfl) (by kernel_rfl)) rfl ⟨by rw [HN.out]; exact ⟨none, 0, 0, none, 0, 0, none, 0, 0, rfl, Lists.nil _ _⟩, hB⟩
        · rw [if_neg hlt] at HC
          have hst2 : st = n := by omega
          clear hst
          go_wp2_with fail
          refine (outOfOrder_any l ad N cap _ HN2.out hvl HF.out.1 HF.out.2.1 (by omega)).mono ?_
          rintro e w3 ⟨rfl, hb3⟩
          replace hR := hR.below hb3 hR.lt
          have hvl3 := hvl.below hb3
          replace hB := hB.trans (hb3.mono hB.size)
          clear hb3 hvl
          cases hord : ordRd l with
          | some q =>
            rw [hord] at HC
            have hq4 := HF.out.2.2.2.2 q hord
            have hqn : (q != 0) = true := by rw [bne_iff_ne]; omega
            have HN : Hid (readRd b = ansErr 10 q) := HC
            clear HC hord
            simp only [Option.getD_some]
            go_wp2_with (refine wpList_bstore (by rfl) _ _ _ (by rfl) w.heap.size 45 (by rfl) _ _ (by rfl) hR 5 (by rfl) (by kernel_rfl) (by rfl) (by intro x hx; simp at hx; rcases hx with rfl | rfl | rfl | rfl | rfl <;> rfl) ?_; intro w9 hR9 hU9; replace hR := hR9; replace hB := hU9.below hB (Nat.le_refl _); clear hR9; clear hU9)
            exact bodyPost_ret (v := .tuple #[.agg (lnkC 0 0 none 0 0 none 0 0 none 0 0).toArray, .int .i64 10, .int .i64 q]) (results_box3 (by rfl) _ _ w.heap.size 45 _ _ _ _ (by rfl) hR (by rfl) (by rfl) Try.underlying45 (by rfl) 5 (by rfl) (by kernel_rfl)) rfl ⟨by rw [HN.out]; exact ⟨none, 0, 0, none, 0, 0, none, 0, 0, rfl, Lists.nil _ _⟩, hB⟩
          | none =>
            rw [hord] at HC
            have HN : Hid (readRd b = ansOk l) := HC
            clear HC
            simp only [Option.getD_none]
            go_wp2_with fail
            have hg3 := hR.lt
            refine (linkOf_any l ad N cap _ HN2.out hvl3 (ordered_of hord) (by omega)).mono ?_
            rintro e w4 ⟨a1, n1, c1, a2, n2, c2, a3, n3, c3, rfl, hT, hb4⟩
            replace hR := hR.below hb4 hR.lt
            have hL := hT.lists.keep ((Below.refl w4.heap.size w4).alloc (Nat.le_refl _) (.cells (lnkC (l.getD 0 fd0).seq (l.getD 0 fd0).base a1 n1 c1 a2 n2 c2 a3 n3 c3).toArray 45))
            replace hB := (hB.trans (hb4.mono hB.size))
            clear hb4 hord hT
            go_wp2_with (refine wpList_bstore (by rfl) _ _ _ (by rfl) w.heap.size 45 (by rfl) _ _ (by rfl) (hR.alloc _) 5 (by rfl) (by kernel_rfl) (by rfl) (by intro x hx; simp at hx; rcases hx with rfl | rfl | rfl | rfl | rfl <;> rfl) ?_; intro w9 hR9 hU9; replace hR := hR9; replace hB := hU9.below (hB.alloc hB.size _) (Nat.le_refl _); clear hR9; replace hL := hL.upd hU9 hg3; clear hU9)
            exact bodyPost_ret (v := .tuple #[.agg (lnkC (l.getD 0 fd0).seq (l.getD 0 fd0).base a1 n1 c1 a2 n2 c2 a3 n3 c3).toArray, .int .i64 0, .int .i64 0]) (results_box3 (by rfl) _ _ w.heap.size 45 _ _ _ _ (by rfl) hR (by rfl) (by rfl) Try.underlying45 (by rfl) 5 (by rfl) (by kernel_rfl)) rfl ⟨by rw [HN.out]; exact ⟨a1, _, c1, a2, _, c2, a3, _, c3, rfl, hL.mono (Nat.le_of_lt hg3)⟩, hB⟩
    · have hmk : ((str (b.take 4)).toList == [80, 82, 67, 49]) = false := by rw [str_toList, beq_eq_false_iff_ne]; exact hm
      have HN : Hid (readRd b = ansErr 7 0) := by show _ = _; unfold readRd; rw [if_pos (Or.inr hm)]
      clear hz hm
      go_enter Try.func35, Try.ntmps35
      go_wp2_with fail
      exact bodyPost_ret (v := .tuple #[.agg (lnkC 0 0 none 0 0 none 0 0 none 0 0).toArray, .int .i64 7, .int .i64 0]) (results_box3 (by rfl) _ _ w.heap.size 45 _ _ _ _ (by rfl) hR (by rfl) (by rfl) Try.underlying45 (by rfl) 5 (by rfl) (by kernel_rfl)) rfl ⟨by rw [HN.out]; exact ⟨none, 0, 0, none, 0, 0, none, 0, 0, rfl, Lists.nil _ _⟩, hB⟩
end Go.Proofs.Ytdjpkgaicmklmab

/- What the walks of the owner's calls share. -/
namespace Go.Proofs.Ytdjpkgaicmklmab
open Go.RowKit

def ShFd (l : List Value) : Prop := ∃ f : Fd, l = f.cells
def ShCk (l : List Value) : Prop := ∃ f : Ck, l = f.cells
def ShCd (l : List Value) : Prop := ∃ f : Cd, l = f.cells
def ShEd (l : List Value) : Prop := ∃ f : Ed, l = f.cells

theorem newc1 (X : World) (cs : List Value) (t : TypeId) : ∀ j u, cs[j]? = some u → (X.alloc (.cells cs.toArray t)).cell? ((⟨X.heap.size, 0, none⟩ : Addr).add j) = some u := by
  intro j u h
  rw [addr_add, (Bx.new X t cs.toArray).cell]
  simpa using h
/-- The worlds part in one block alone. -/
structure Upo (g : Option Nat) (w w' : World) : Prop where
  os : w'.os = w.os
  tape : w'.tape = w.tape
  output : w'.output = w.output
  size : w'.heap.size = w.heap.size
  block : ∀ k, g ≠ some k → w'.heap[k]? = w.heap[k]?
theorem Upo.refl (g : Option Nat) (w : World) : Upo g w w := ⟨rfl, rfl, rfl, rfl, fun _ _ => rfl⟩
theorem Upo.upd {g : Option Nat} {k : Nat} {w w1 w2 : World} (h : Upo g w w1) (hu : Upd k w1 w2) (hk : g = some k) : Upo g w w2 :=
  ⟨hu.os.trans h.os, hu.tape.trans h.tape, hu.output.trans h.output, hu.size.trans h.size, fun j hj => (hu.block j (fun e => hj (by rw [hk, e]))).trans (h.block j hj)⟩
theorem Bx.upo {g : Option Nat} {w w' : World} {k e : Nat} {cs : List Value} (b : Bx w k e cs) (h : Upo g w w') (hg : g ≠ some k) : Bx w' k e cs := ⟨by rw [h.block k hg]; exact b.h⟩
theorem Vec.upo {g : Option Nat} {w w' : World} {B e m : Nat} {ad : Option Addr} {n cap : Nat} {xs : List Value} (h : Vec w B e m ad n cap xs) (hu : Upo g w w') (hg : ∀ b, ad = some b → g ≠ some b.block) : Vec w' B e m ad n cap xs := by
  refine ⟨h.1, ?_⟩
  rcases h.2 with h2 | ⟨k, c, cur, hv, hB, hk, r⟩
  · exact Or.inl h2
  · refine Or.inr ⟨k, c, cur, hv, hB, ?_, r⟩
    simp at hv
    rw [hu.block k (hg _ hv.1)]; exact hk
theorem Upo.below {g : Option Nat} {B : Nat} {w0 w w' : World} (h : Upo g w w') (hb : Below B w0 w) (hg : ∀ k, g = some k → B ≤ k) : Below B w0 w' :=
  ⟨h.os.trans hb.os, h.tape.trans hb.tape, h.output.trans hb.output, by rw [h.size]; exact hb.size, fun k hk => (h.block k (fun e => by have := hg k e; omega)).trans (hb.block k hk)⟩
theorem But3.of_upo {go e eb : Nat} {g : Option Nat} {w w' : World} (h : Upo g w w') (hg : ∀ k, g = some k → ∃ cur t, w.heap[k]? = some (.cells cur t) ∧ (t = e ∨ t = eb)) : But3 go e eb w w' :=
  ⟨by rw [h.size]; exact Nat.le_refl _, fun k cur t _ h2 h3 h4 => by
    have hk : g ≠ some k := by
      intro hk
      obtain ⟨cur', t', hc, ht⟩ := hg k hk
      rw [h2] at hc; simp at hc; obtain ⟨-, rfl⟩ := hc; rcases ht with ht | ht
      · exact h3 ht
      · exact h4 ht
    rw [h.block k hk]; exact h2⟩

theorem merge {T G : Prop} (main : Hid T → G) (key : T) : G := main key
theorem St.six {Sh : List Value → Prop} {w0 w X w6 : World} {B B1 go gm tT e eb m f : Nat} {oc mk row : List Value} {ad : Option Addr} {N cap : Nat} {a4 : Option Addr} {c4 : Nat} {L : List Bk} (hk : Kp (a4.map (·.block)) row X w6) (h : St Sh w0 w B B1 go gm tT e eb m f oc mk ad N cap a4 c4 L) (hb : Below w.heap.size w X) (hB : B ≤ w.heap.size) (h1 : eb ≠ tT) {x : Bk} (hx : Reads1 Sh w B e m x) :
    Reads1 Sh X B e m x ∧ B ≤ X.heap.size ∧ St Sh w0 X B B1 go gm tT e eb m f oc mk ad N cap a4 c4 L ∧ w6.cell? ⟨go, f, none⟩ = some (.slice a4 L.length c4) ∧ w6.frozen? ⟨go, f, none⟩ = false := by
  have h2 := h.step hb hB
  have h3 := h2.o.kp hk (h2.o.apart h2.b h1)
  exact ⟨⟨hx.len, hx.vec.keep hb, hx.few, hx.shape⟩, Nat.le_trans hB hb.size, h2, by rw [h3.cell, h.at_], h3.frozen f⟩
/-- The list is written over. -/
theorem St.start {Sh : List Value → Prop} {w w1 w3 : World} {B B1 go tT e eb m f : Nat} {oc0 oc mk xs : List Value} {ad : Option Addr} {N cap : Nat} {a4 : Option Addr} {c4 : Nat} {L : List Bk} (hO : Bx w go tT oc0) (hO1 : Bx w1 go tT oc) (hU : Upd go w w1) (hK : Books Sh w B e eb m a4 c4 L)
    (hfr : ∀ x, x ∈ L → ∀ b, x.ad = some b → b.block < B1) (hv : Vec w B1 e m ad N cap xs) (hu : Upo (ad.map (·.block)) (w1.alloc (.cells mk.toArray e)) w3) (hv3 : Vec w3 B1 e m ad N cap (rep N mk)) (hf : oc[f]? = some (.slice a4 L.length c4)) (hm : mk.length = m)
    (hB : B ≤ go) (hB1 : B ≤ B1) (hBw : B ≤ w.heap.size) (h1 : e ≠ tT) (h2 : eb ≠ tT) (h3 : e ≠ eb) : St Sh w w3 B B1 go w1.heap.size tT e eb m f oc mk ad N cap a4 c4 L := by
  have hz := hU.size
  have hal : Below w1.heap.size w1 (w1.alloc (.cells mk.toArray e)) := (Below.refl _ _).alloc (Nat.le_refl _) _
  have hlt : ∀ k, ad.map (·.block) = some k → B1 ≤ k ∧ k < w1.heap.size ∧ k ≠ go := by
    intro k hk
    obtain ⟨h4, cur, hc⟩ := hv.typed k hk
    refine ⟨h4, by rw [hz]; exact (Array.getElem?_eq_some_iff.1 hc).1, fun e1 => hO.apart hv h1 (by rw [hk, e1])⟩
  have tr : ∀ {B' e' m' : Nat} {ad' : Option Addr} {n' cap' : Nat} {xs' : List Value}, Vec w B' e' m' ad' n' cap' xs' → e' ≠ tT → (∀ b, ad' = some b → ad.map (·.block) ≠ some b.block) → Vec w3 B' e' m' ad' n' cap' xs' := by
    intro B' e' m' ad' n' cap' xs' h4 h5 h6
    exact ((h4.updo hU (fun b hb e1 => hO.apart h4 h5 (by rw [hb]; simp [e1]))).keep hal).upo hu h6
  have hgm := Bx.new w1 e mk.toArray
  refine ⟨(hO1.alloc _).upo hu (fun e1 => (hlt _ e1).2.2 rfl), ?_, hv3, tr hK.list h2 (fun b hb e1 => hK.list.apart hv (fun e => h3 e.symm) b hb e1), fun x hx => ⟨⟨(hK.each x hx).len, tr (hK.each x hx).vec h1 (fun b hb e1 => ?_), (hK.each x hx).few, (hK.each x hx).shape⟩, Or.inl (hfr x hx)⟩, hf, hm, hB, hB1, fun b hb e1 => ?_, ?_, ?_⟩
  · have := hgm.upo hu (fun e1 => by have := (hlt _ e1).2.1; omega); simpa using this
  · have := hfr x hx b hb; have := (hlt _ e1).1; omega
  · have := (hlt b.block (by rw [hb]; rfl)).2.1; omega
  · exact hu.below ((hU.below (Below.refl _ _) hB).alloc (by rw [hz]; exact hBw) _) (fun k hk => Nat.le_trans hB1 (hlt k hk).1)
  · refine ((But3.of_upd hU (Or.inl rfl)).trans (But3.of_below hal)).trans (But3.of_upo hu fun k hk => ?_)
    obtain ⟨_, cur, hc⟩ := hv.typed k hk
    refine ⟨cur, e, ?_, Or.inl rfl⟩
    rw [hal.block k (hlt k hk).2.1, hU.block k (hlt k hk).2.2]; exact hc
end Go.Proofs.Ytdjpkgaicmklmab

/- linked of the reference: walked. -/
namespace Go.Proofs.Ytdjpkgaicmklmab
open Go.RowKit

end Go.Proofs.Ytdjpkgaicmklmab

/- Read of the reference: walked. -/
namespace Go.Proofs.Ytdjpkgaicmklmab
open Go.RowKit

theorem Bx.drew1 {w : World} {g e : Nat} {cs : List Value} (b : Bx w g e cs) : Bx w.drew g e cs := ⟨b.h⟩
theorem bx5 {w : World} {g e : Nat} {v0 v1 v2 v3 v4 : Value} {x0 x1 x2 x3 x4 : Value} (h : Bx w g e [x0, x1, x2, x3, x4]) : Bx ((((((w.setCell ⟨g, 0, none⟩ v0).setCell ⟨g, 1, none⟩ v1).setCell ⟨g, 2, none⟩ v2).setCell ⟨g, 3, none⟩ v3).setCell ⟨g, 4, none⟩ v4).drew) g e [v0, v1, v2, v3, v4] :=
  by
  have h5 := ((((h.setCell 0 v0).setCell 1 v1).setCell 2 v2).setCell 3 v3).setCell 4 v4
  dsimp only [List.set] at h5
  exact h5.drew1
theorem be5 {w0 w : World} {g : Nat} {v0 v1 v2 v3 v4 : Value} (h : Below g w0 w) : Below g w0 ((((((w.setCell ⟨g, 0, none⟩ v0).setCell ⟨g, 1, none⟩ v1).setCell ⟨g, 2, none⟩ v2).setCell ⟨g, 3, none⟩ v3).setCell ⟨g, 4, none⟩ v4).drew) :=
  ((((((Upd.refl g w).setCell ⟨g, 0, none⟩ rfl v0).setCell ⟨g, 1, none⟩ rfl v1).setCell ⟨g, 2, none⟩ rfl v2).setCell ⟨g, 3, none⟩ rfl v3).setCell ⟨g, 4, none⟩ rfl v4).drew.below h (Nat.le_refl _)
def okB (i : Nat) (p f : Fd) : Bool := if i = 0 then f.kind == 4 else fitB p f
/-- How far the order has been looked at. -/
def OI (l : List Fd) (i : Nat) (p : Fd) : Prop := (i = 0 ∧ p = fd0) ∨ (1 ≤ i ∧ ordRd l = ordF p (l.drop i))
theorem OI.step {l : List Fd} {i : Nat} {p : Fd} (h : OI l i p) (hi : i < l.length) (hk : okB i p (l.getD i fd0) = true) : OI l (i + 1) (l.getD i fd0) := by
  refine Or.inr ⟨by omega, ?_⟩
  rw [getD_lt l i hi] at hk ⊢
  rcases h with ⟨rfl, rfl⟩ | ⟨h1, h2⟩
  · cases l with
    | nil => simp at hi
    | cons f r => simp [okB] at hk; simp only [ordRd]; rw [if_pos hk]; rfl
  · unfold okB at hk; rw [if_neg (by omega)] at hk
    rw [h2, List.drop_eq_getElem_cons hi]; simp only [ordF]; rw [if_pos hk]
theorem OI.bad {l : List Fd} {i : Nat} {p : Fd} (h : OI l i p) (hi : i < l.length) (hk : okB i p (l.getD i fd0) = false) : ordRd l = some (l.getD i fd0).at_ := by
  rw [getD_lt l i hi] at hk ⊢
  rcases h with ⟨rfl, rfl⟩ | ⟨h1, h2⟩
  · cases l with
    | nil => simp at hi
    | cons f r => simp [okB] at hk; simp only [ordRd]; rw [if_neg hk]; rfl
  · unfold okB at hk; rw [if_neg (by omega)] at hk
    rw [h2, List.drop_eq_getElem_cons hi]; simp only [ordF]; rw [if_neg (by rw [hk]; decide)]
theorem OI.done {l : List Fd} {p : Fd} (h : OI l l.length p) (h0 : 0 < l.length) : ordRd l = none := by
  rcases h with ⟨h1, _⟩ | ⟨_, h2⟩
  · omega
  · rw [h2, List.drop_of_length_le (Nat.le_refl _)]; rfl

end Go.Proofs.Ytdjpkgaicmklmab

/- sameFound, and what own.kept asks: walked. -/
namespace Go.Proofs.Ytdjpkgaicmklmab
open Go.RowKit

theorem books_lies {Sh : List Value → Prop} {w : World} {B e eb m : Nat} {ad : Option Addr} {cap : Nat} {L : List Bk} (h : Books Sh w B e eb m ad cap L) : Lies w ad L.length (m + 1) (fun i => (L.getD i ⟨none, 0, 0, []⟩).cells) := by
  refine Vec.lies (rows := L.map Bk.cells) h.list ?_ (by simp) _ ?_
  · intro r hr; obtain ⟨x, hx, rfl⟩ := List.mem_map.1 hr; simp [(h.each x hx).len]
  · intro i hi; simp [List.getD, hi]
theorem rep_lies {w : World} {B e m : Nat} {ad : Option Addr} {n cap : Nat} {mk : List Value} (h : Vec w B e m ad n cap (rep n mk)) (hm : mk.length = m) : Lies w ad n m (fun _ => mk) := by
  refine Vec.lies (rows := List.replicate n mk) h ?_ (by simp) _ ?_
  · intro r hr; rw [(List.mem_replicate.1 hr).2]; exact hm
  · intro i hi; simp [List.getD, hi]

end Go.Proofs.Ytdjpkgaicmklmab

/- own.kept, walked: each book's list reads its mark. -/
namespace Go.Proofs.Ytdjpkgaicmklmab
open Go.RowKit

end Go.Proofs.Ytdjpkgaicmklmab

/- The owner writes over what came out: (*parcellaw.own).ofCards, walked. -/
namespace Go.Proofs.Ytdjpkgaicmklmab
open Go.RowKit

end Go.Proofs.Ytdjpkgaicmklmab

/- The owner writes over what came out: (*parcellaw.own).ofEdits, walked. -/
namespace Go.Proofs.Ytdjpkgaicmklmab
open Go.RowKit

end Go.Proofs.Ytdjpkgaicmklmab

/- The owner writes over what came out: (*parcellaw.own).replica, walked. -/
namespace Go.Proofs.Ytdjpkgaicmklmab
open Go.RowKit

theorem Books.old {Sh : List Value → Prop} {w : World} {B e eb m : Nat} {ad : Option Addr} {cap : Nat} {L : List Bk} (h : Books Sh w B e eb m ad cap L) : ∀ x, x ∈ L → ∀ b, x.ad = some b → b.block < w.heap.size := by
  intro x hx b hb
  obtain ⟨_, cur, hc⟩ := (h.each x hx).vec.typed b.block (by rw [hb]; rfl)
  exact (Array.getElem?_eq_some_iff.1 hc).1

theorem bx_six {Sh : List Value → Prop} {w0 w X w6 : World} {B B1 go gm tT e eb m f gr tr : Nat} {oc mk row cs : List Value} {ad : Option Addr} {N cap : Nat} {a4 : Option Addr} {c4 : Nat} {L : List Bk} (hk : Kp (a4.map (·.block)) row X w6) (h : St Sh w0 w B B1 go gm tT e eb m f oc mk ad N cap a4 c4 L) (hG : Bx w gr tr cs) (hb : Below w.heap.size w X) (h1 : eb ≠ tr) : Bx w6 gr tr cs :=
  (hG.below hb hG.lt).kp hk ((hG.below hb hG.lt).apart (h.b.keep hb) h1)
theorem Bx.but3 {w w' : World} {k t go e eb : Nat} {cs : List Value} (b : Bx w k t cs) (hb : But3 go e eb w w') (hk : k ≠ go) (h1 : t ≠ e) (h2 : t ≠ eb) : Bx w' k t cs := ⟨hb.block k _ t hk b.h h1 h2⟩

end Go.Proofs.Ytdjpkgaicmklmab

/- own.replicasKept, walked: each book's list reads its mark. -/
namespace Go.Proofs.Ytdjpkgaicmklmab
open Go.RowKit

end Go.Proofs.Ytdjpkgaicmklmab

/- Reads: called with any bytes, up to very many, it answers true. -/
namespace Go.Proofs.Ytdjpkgaicmklmab
open Go.RowKit

set_option maxRecDepth 100000 in
set_option maxHeartbeats 4000000 in
theorem pread_any (b : List UInt8) (w : World) (hb : b.length ≤ 1099511627776) :
    Calls Try.prog 17 #[.string (str b)] w fun e w' => ReadAns (readRd b) w.heap.size e w' ∧ Below w.heap.size w w' := by
  obtain ⟨hR, hW, hB⟩ := one_box w 45 (lnkC 0 0 none 0 0 none 0 0 none 0 0).toArray
  go_enter Try.func17, Try.ntmps17
  go_wp2_with fail
  refine (bread_any b _ hb).mono ?_
  rintro e w1 ⟨⟨a1, n1, c1, a2, n2, c2, a3, n3, c3, rfl, hL⟩, hb1⟩
  replace hL := hL.mono (Nat.le_of_eq hW.symm : w.heap.size + 1 ≤ _)
  replace hR := hR.below hb1 hR.lt
  replace hB := hB.trans (hb1.mono (Nat.le_trans (Nat.le_succ _) (Nat.le_of_eq hW.symm)))
  clear hb1 hW
  generalize hx : readRd b = x at *
  have HX : Hid (readRd b = x) := hx
  clear hx
  go_wp2_with (refine wpList_bstore (by rfl) _ _ _ (by rfl) w.heap.size 45 (by rfl) _ _ (by rfl) hR 5 (by rfl) (by kernel_rfl) (by rfl) (by intro x hx; simp at hx; rcases hx with rfl | rfl | rfl | rfl | rfl <;> rfl) ?_; intro w9 hR9 hU9; replace hR := hR9; replace hB := hU9.below hB (Nat.le_refl _); replace hL := hL.upd hU9 (by omega); clear hR9 hU9)
  exact bodyPost_ret (v := .tuple #[.agg (lnkC x.seq x.base a1 n1 c1 a2 n2 c2 a3 n3 c3).toArray, .int .i64 x.err, .int .i64 x.place]) (results_box3 (by rfl) _ _ w.heap.size 45 _ _ _ _ (by rfl) hR (by rfl) (by rfl) Try.underlying45 (by rfl) 5 (by rfl) (by kernel_rfl)) rfl ⟨by rw [HX.out]; exact ⟨a1, n1, c1, a2, n2, c2, a3, n3, c3, rfl, hL.mono (Nat.le_succ _)⟩, hB⟩

theorem Lists.has {w : World} {B : Nat} {K : List Ck} {C : List Cd} {E : List Ed} {a1 : Option Addr} {n1 c1 : Nat} {a2 : Option Addr} {n2 c2 : Nat} {a3 : Option Addr} {n3 c3 : Nat} (h : Lists w B K C E a1 n1 c1 a2 n2 c2 a3 n3 c3) (h1 : n1 ≤ 1099511627776) (h2 : n2 ≤ 1099511627776) (h3 : n3 ≤ 1099511627776) :
    Has w (repOf K C E) a1 a2 a3 ∧ repV (repOf K C E) a1 a2 a3 c1 c2 c3 = .agg #[.slice a1 n1 c1, .slice a2 n2 c2, .slice a3 n3 c3] := by
  obtain ⟨v1, v2, v3, rfl, rfl, rfl⟩ := h
  refine ⟨⟨kvec_lies v1 rfl, cvec_lies v2 rfl, evec_lies v3 rfl, ?_, ?_, ?_, ?_, ?_, ?_⟩, rfl⟩ <;> simp only [repOf] <;> omega
theorem readRd_few (b : List UInt8) : (readRd b).K.length ≤ b.length ∧ (readRd b).C.length ≤ b.length ∧ (readRd b).E.length ≤ b.length := by
  have hl : ∀ l : List Fd, l.length ≤ b.length → (ansOk l).K.length ≤ b.length ∧ (ansOk l).C.length ≤ b.length ∧ (ansOk l).E.length ≤ b.length := fun l h => ⟨Nat.le_trans (ckOf_le l) h, Nat.le_trans (cdOf_le l) h, Nat.le_trans (edOf_le l) h⟩
  have he : ∀ e p, (ansErr e p).K.length ≤ b.length ∧ (ansErr e p).C.length ≤ b.length ∧ (ansErr e p).E.length ≤ b.length := fun e p => ⟨by simp [ansErr], by simp [ansErr], by simp [ansErr]⟩
  unfold readRd
  split
  · exact he _ _
  · split
    · split
      · exact he _ _
      · split
        · exact he _ _
        · refine hl _ ?_
          have := frF_length (b.take (b.length - 4)).length 4 ((b.take (b.length - 4)).drop 4)
          unfold framed
          refine Nat.le_trans this ?_
          simp
    · exact he _ _

end Go.Proofs.Ytdjpkgaicmklmab

/- Restores: called with any bytes, up to very many, it answers true. -/
namespace Go.Proofs.Ytdjpkgaicmklmab
open Go.RowKit

/-- What Restore answers, out of what Read does. -/
def restOf (x : Ans) : Ans := if x.err = 0 then (if x.seq = 0 then (if (repOf x.K x.C x.E).chk = 0 then ⟨0, 0, 0, 0, x.K, x.C, x.E⟩ else ansErr (repOf x.K x.C x.E).chk 0) else ansErr 11 0) else ansErr x.err x.place
def restRd (b : List UInt8) : Ans := restOf (readRd b)
def RestAns (x : Ans) (B : Nat) (e : Ending) (w' : World) : Prop := ∃ a1 n1 c1 a2 n2 c2 a3 n3 c3, e = .returned (.tuple #[.agg #[.slice a1 n1 c1, .slice a2 n2 c2, .slice a3 n3 c3], .int .i64 x.err, .int .i64 x.place]) ∧ Lists w' B x.K x.C x.E a1 n1 c1 a2 n2 c2 a3 n3 c3
theorem restRd_few (b : List UInt8) : (restRd b).K.length ≤ b.length ∧ (restRd b).C.length ≤ b.length ∧ (restRd b).E.length ≤ b.length := by
  have he : ∀ e p, (ansErr e p).K.length ≤ b.length ∧ (ansErr e p).C.length ≤ b.length ∧ (ansErr e p).E.length ≤ b.length := fun e p => ⟨by simp [ansErr], by simp [ansErr], by simp [ansErr]⟩
  unfold restRd restOf
  split
  · split
    · split
      · exact readRd_few b
      · exact he _ _
    · exact he _ _
  · exact he _ _

set_option maxRecDepth 100000 in
set_option maxHeartbeats 4000000 in
theorem prestore_any (b : List UInt8) (w : World) (hb : b.length ≤ 1099511627776) :
    Calls Try.prog 15 #[.string (str b)] w fun e w' => RestAns (restRd b) w.heap.size e w' ∧ Below w.heap.size w w' := by
  obtain ⟨hR, hW, hB⟩ := one_box w 28 ([.slice none 0 0, .slice none 0 0, .slice none 0 0] : List Value).toArray
  have hfew := readRd_few b
  go_enter Try.func15, Try.ntmps15
  go_wp2_with fail
  refine (bread_any b _ hb).mono ?_
  rintro e w1 ⟨⟨a1, n1, c1, a2, n2, c2, a3, n3, c3, rfl, hL⟩, hb1⟩
  replace hL := hL.mono (Nat.le_of_eq hW.symm : w.heap.size + 1 ≤ _)
  replace hR := hR.below hb1 hR.lt
  replace hB := hB.trans (hb1.mono (Nat.le_trans (Nat.le_succ _) (Nat.le_of_eq hW.symm)))
  clear hb1 hW
  have f1 : n1 ≤ 1099511627776 := by rw [hL.e1]; omega
  have f2 : n2 ≤ 1099511627776 := by rw [hL.e2]; omega
  have f3 : n3 ≤ 1099511627776 := by rw [hL.e3]; omega
  have hx : restRd b = restOf (readRd b) := rfl
  have HX : Hid (restRd b = restOf (readRd b)) := hx
  clear hx hfew
  generalize readRd b = x at *
  by_cases he : x.err = 0
  · have heb : (x.err != 0) = false := by rw [he]; rfl
    by_cases hq : x.seq = 0
    · have hqb : (x.seq != 0) = false := by rw [hq]; rfl
      have hal : Below w1.heap.size w1 (w1.alloc (.cells (lnkC x.seq x.base a1 n1 c1 a2 n2 c2 a3 n3 c3).toArray 45)) := (Below.refl _ _).alloc (Nat.le_refl _) _
      have HHA : Hid (Has (w1.alloc (.cells (lnkC x.seq x.base a1 n1 c1 a2 n2 c2 a3 n3 c3).toArray 45)) (repOf x.K x.C x.E) a1 a2 a3 ∧ repV (repOf x.K x.C x.E) a1 a2 a3 c1 c2 c3 = .agg #[.slice a1 n1 c1, .slice a2 n2 c2, .slice a3 n3 c3]) := (hL.keep hal).has f1 f2 f3
      have hLb := Bx.new w1 45 (lnkC x.seq x.base a1 n1 c1 a2 n2 c2 a3 n3 c3).toArray
      have HE : Hid (x.err = 0 ∧ x.seq = 0) := ⟨he, hq⟩
      clear he hq
      go_wp2_with fail
      have hck := check_any (repOf x.K x.C x.E) a1 a2 a3 c1 c2 c3 _ HHA.out.1
      rw [HHA.out.2] at hck
      refine hck.mono ?_
      rintro e w2 ⟨rfl, hb2⟩
      clear hck
      replace hLb := hLb.below hb2 hLb.lt
      replace hL := (hL.keep hal).keep hb2
      replace hR := (hR.alloc _).below hb2 (by have := hR.lt; simp; omega)
      replace hB := (hB.alloc hB.size _).trans (hb2.mono (by have := hB.size; simp; omega))
      clear hb2 hal
      by_cases hc : (repOf x.K x.C x.E).chk = 0
      · have hcb : ((repOf x.K x.C x.E).chk != 0) = false := by rw [hc]; rfl
        have HN : Hid (restRd b = ⟨0, 0, 0, 0, x.K, x.C, x.E⟩) := by show _ = _; rw [HX.out]; simp only [restOf]; rw [if_pos HE.out.1, if_pos HE.out.2, if_pos hc]
        have x2 := hLb.cell 2
        have x3 := hLb.cell 3
        have x4 := hLb.cell 4
        dsimp only [List.getElem?_cons_zero, List.getElem?_cons_succ] at x2 x3 x4
        clear hc hLb
        go_wp2_with (refine wpList_bstore (by rfl) _ _ _ (by rfl) w.heap.size 28 (by rfl) _ _ (by rfl) hR 3 (by rfl) (by kernel_rfl) (by rfl) (by intro x hx; simp at hx; rcases hx with rfl | rfl | rfl <;> rfl) ?_; intro w9 hR9 hU9; replace hR := hR9; replace hB := hU9.below hB (Nat.le_refl _); replace hL := hL.upd hU9 (by omega); clear hR9 hU9)
        exact bodyPost_ret (v := .tuple #[.agg #[.slice a1 n1 c1, .slice a2 n2 c2, .slice a3 n3 c3], .int .i64 0, .int .i64 0]) (results_box3 (by rfl) _ _ w.heap.size 28 _ _ _ _ (by rfl) hR (by rfl) (by rfl) Try.underlying28 (by rfl) 3 (by rfl) (by kernel_rfl)) rfl ⟨by rw [HN.out]; exact ⟨a1, n1, c1, a2, n2, c2, a3, n3, c3, rfl, hL.mono (Nat.le_succ _)⟩, hB⟩
      · have hcb : ((repOf x.K x.C x.E).chk != 0) = true := by rw [bne_iff_ne]; exact hc
        have HN : Hid (restRd b = ansErr (repOf x.K x.C x.E).chk 0) := by show _ = _; rw [HX.out]; simp only [restOf]; rw [if_pos HE.out.1, if_pos HE.out.2, if_neg hc]
        clear hc hLb
        generalize (repOf x.K x.C x.E).chk = ck at *
        go_wp2_with (refine wpList_bstore (by rfl) _ _ _ (by rfl) w.heap.size 28 (by rfl) _ _ (by rfl) hR 3 (by rfl) (by kernel_rfl) (by rfl) (by intro x hx; simp at hx; rcases hx with rfl | rfl | rfl <;> rfl) ?_; intro w9 hR9 hU9; replace hR := hR9; replace hB := hU9.below hB (Nat.le_refl _); clear hR9 hU9)
        exact bodyPost_ret (v := .tuple #[.agg ([.slice none 0 0, .slice none 0 0, .slice none 0 0] : List Value).toArray, .int .i64 ck, .int .i64 0]) (results_box3 (by rfl) _ _ w.heap.size 28 _ _ _ _ (by rfl) hR (by rfl) (by rfl) Try.underlying28 (by rfl) 3 (by rfl) (by kernel_rfl)) rfl ⟨by rw [HN.out]; exact ⟨none, 0, 0, none, 0, 0, none, 0, 0, rfl, Lists.nil _ _⟩, hB⟩
    · have hqb : (x.seq != 0) = true := by rw [bne_iff_ne]; exact hq
      have HN : Hid (restRd b = ansErr 11 0) := by show _ = _; rw [HX.out]; simp only [restOf]; rw [if_pos he, if_neg hq]
      clear hq he
      go_wp2_with (refine wpList_bstore (by rfl) _ _ _ (by rfl) w.heap.size 28 (by rfl) _ _ (by rfl) (hR.alloc _) 3 (by rfl) (by kernel_rfl) (by rfl) (by intro x hx; simp at hx; rcases hx with rfl | rfl | rfl <;> rfl) ?_; intro w9 hR9 hU9; replace hR := hR9; replace hB := hU9.below (hB.alloc hB.size _) (Nat.le_refl _); clear hR9 hU9)
      exact bodyPost_ret (v := .tuple #[.agg ([.slice none 0 0, .slice none 0 0, .slice none 0 0] : List Value).toArray, .int .i64 11, .int .i64 0]) (results_box3 (by rfl) _ _ w.heap.size 28 _ _ _ _ (by rfl) hR (by rfl) (by rfl) Try.underlying28 (by rfl) 3 (by rfl) (by kernel_rfl)) rfl ⟨by rw [HN.out]; exact ⟨none, 0, 0, none, 0, 0, none, 0, 0, rfl, Lists.nil _ _⟩, hB⟩
  · have heb : (x.err != 0) = true := by rw [bne_iff_ne]; exact he
    have HN : Hid (restRd b = ansErr x.err x.place) := by show _ = _; rw [HX.out]; simp only [restOf]; rw [if_neg he]
    clear he
    go_wp2_with (refine wpList_bstore (by rfl) _ _ _ (by rfl) w.heap.size 28 (by rfl) _ _ (by rfl) (hR.alloc _) 3 (by rfl) (by kernel_rfl) (by rfl) (by intro x hx; simp at hx; rcases hx with rfl | rfl | rfl <;> rfl) ?_; intro w9 hR9 hU9; replace hR := hR9; replace hB := hU9.below (hB.alloc hB.size _) (Nat.le_refl _); clear hR9 hU9)
    exact bodyPost_ret (v := .tuple #[.agg ([.slice none 0 0, .slice none 0 0, .slice none 0 0] : List Value).toArray, .int .i64 x.err, .int .i64 x.place]) (results_box3 (by rfl) _ _ w.heap.size 28 _ _ _ _ (by rfl) hR (by rfl) (by rfl) Try.underlying28 (by rfl) 3 (by rfl) (by kernel_rfl)) rfl ⟨by rw [HN.out]; exact ⟨none, 0, 0, none, 0, 0, none, 0, 0, rfl, Lists.nil _ _⟩, hB⟩

abbrev repC (a1 : Option Addr) (n1 c1 : Nat) (a2 : Option Addr) (n2 c2 : Nat) (a3 : Option Addr) (n3 c3 : Nat) : List Value := [.slice a1 n1 c1, .slice a2 n2 c2, .slice a3 n3 c3]

end Go.Proofs.Ytdjpkgaicmklmab

/- Restore of Export is that replica: without the program. -/
namespace Go.Proofs.Ytdjpkgaicmklmab
open Go.RowKit

theorem clockTo_congr {c d : Nat → Ck} {site : Int} : ∀ {n : Nat}, (∀ i, i < n → c i = d i) → clockTo c site n = clockTo d site n
  | 0, _ => rfl
  | n + 1, h => by simp only [clockTo]; rw [clockTo_congr (fun i hi => h i (by omega)), h n (by omega)]
/-- The same replicas are alike to Check. -/
theorem Same.chk {R T : Rep} (h : Same R T) : R.chk = T.chk := by
  have e1 : R.manyB = T.manyB := by unfold Rep.manyB; rw [h.n1, h.n2, h.n3]
  have e2 : R.numB = T.numB := by
    unfold Rep.numB
    rw [anyTo_congr (q := T.num1) (fun i hi => by unfold Rep.num1; rw [h.c i hi]), anyTo_congr (p := R.num2) (q := T.num2) (fun i hi => by unfold Rep.num2; rw [h.d i hi]), anyTo_congr (p := R.num3) (q := T.num3) (fun i hi => by unfold Rep.num3; rw [h.e i hi]), h.n1, h.n2, h.n3]
  have e3 : R.txtB = T.txtB := by
    unfold Rep.txtB
    rw [anyTo_congr (q := T.txt2) (fun i hi => by unfold Rep.txt2; rw [h.d i hi]), anyTo_congr (p := R.txt3) (q := T.txt3) (fun i hi => by unfold Rep.txt3; rw [h.e i hi]), h.n2, h.n3]
  have e4 : R.risB = T.risB := by
    unfold Rep.risB
    rw [anyTo_congr (q := T.ris1) (fun i hi => by unfold Rep.ris1; rw [h.c i (by omega), h.c (i + 1) (by omega)]), anyTo_congr (p := R.ris2) (q := T.ris2) (fun i hi => by unfold Rep.ris2; rw [h.d i (by omega), h.d (i + 1) (by omega)]), h.n1, h.n2]
  have e5 : R.uncB = T.uncB := by
    unfold Rep.uncB
    rw [anyTo_congr (q := T.unc) (fun i hi => by unfold Rep.unc Rep.clk; rw [clockTo_congr h.c, h.d i hi, h.n1]), h.n2]
  have e6 : R.clashB = T.clashB := by
    unfold Rep.clashB
    rw [anyTo_congr (q := T.clash) (fun i hi => by unfold Rep.clash; rw [anyTo_congr (q := fun k => stampB (T.d i) (T.d k)) (fun k hk => by rw [h.d i hi, h.d k (by omega)])]), h.n2]
  unfold Rep.chk
  rw [e1, e2, e3, e4, e5, e6]
theorem same_lists (R : Rep) : Same (repOf ((List.range R.n1).map R.c) ((List.range R.n2).map R.d) ((List.range R.n3).map R.e)) R := by
  refine ⟨by simp [repOf], by simp [repOf], by simp [repOf], fun i hi => ?_, fun i hi => ?_, fun i hi => ?_⟩
  · have : i < R.n1 := by simpa [repOf] using hi
    simp [repOf, List.getD, this]
  · have : i < R.n2 := by simpa [repOf] using hi
    simp [repOf, List.getD, this]
  · have : i < R.n3 := by simpa [repOf] using hi
    simp [repOf, List.getD, this]
/-- Restore of a sound replica's bundle is that replica. -/
theorem restRd_bundle {R : Rep} (h : R.chk = 0) : restRd (bundleB (recsOf 0 0 R)) = ⟨0, 0, 0, 0, (List.range R.n1).map R.c, (List.range R.n2).map R.d, (List.range R.n3).map R.e⟩ := by
  unfold restRd
  rw [readRd_bundle (Rep.fit h) (Rep.rising h) ⟨by decide, by decide⟩ (by decide) (by decide) (fun _ => rfl)]
  simp only [restOf]
  rw [if_pos trivial, if_pos trivial, if_pos (by rw [(same_lists R).chk, h])]
end Go.Proofs.Ytdjpkgaicmklmab

/- Bits of bytes turned over: without the program. -/
namespace Go.Proofs.Ytdjpkgaicmklmab
open Go.RowKit

theorem allBits_get : ∀ (l : List UInt8) (i : Nat), (allBits l)[i]? = (l[i / 8]?).map fun x => x.toNat.testBit (7 - i % 8)
  | [], i => by simp [allBits]
  | x :: l, i => by
    rw [show allBits (x :: l) = bitsOf x ++ allBits l from by rw [show x :: l = [x] ++ l from rfl, allBits_append, allBits_one]]
    by_cases h : i < 8
    · rw [List.getElem?_append_left (by simpa [bitsOf] using h), show i / 8 = 0 by omega]
      have : i = 0 ∨ i = 1 ∨ i = 2 ∨ i = 3 ∨ i = 4 ∨ i = 5 ∨ i = 6 ∨ i = 7 := by omega
      rcases this with rfl | rfl | rfl | rfl | rfl | rfl | rfl | rfl <;> rfl
    · rw [List.getElem?_append_right (by simp [bitsOf]; omega), show i - (bitsOf x).length = i - 8 by simp [bitsOf], allBits_get l (i - 8)]
      rw [show i / 8 = (i - 8) / 8 + 1 by omega, List.getElem?_cons_succ, show (i - 8) % 8 = i % 8 by omega]
theorem bits_byte {x y : UInt8} (h : bitsOf x = bitsOf y) : x = y := by
  simp only [bitsOf, List.cons.injEq, and_true] at h
  obtain ⟨h7, h6, h5, h4, h3, h2, h1, h0⟩ := h
  apply UInt8.toNat_inj.mp
  apply Nat.eq_of_testBit_eq
  intro i
  by_cases hi : i < 8
  · have : i = 0 ∨ i = 1 ∨ i = 2 ∨ i = 3 ∨ i = 4 ∨ i = 5 ∨ i = 6 ∨ i = 7 := by omega
    rcases this with rfl | rfl | rfl | rfl | rfl | rfl | rfl | rfl <;> assumption
  · have hx := x.toNat_lt
    have hy := y.toNat_lt
    have hp : 2 ^ 8 ≤ 2 ^ i := Nat.pow_le_pow_right (by omega) (by omega)
    rw [Nat.testBit_lt_two_pow (by omega), Nat.testBit_lt_two_pow (by omega)]
theorem allBits_inj : ∀ {s t : List UInt8}, allBits s = allBits t → s = t
  | [], [], _ => rfl
  | [], _ :: _, h => by have := congrArg List.length h; rw [allBits_length, allBits_length] at this; simp at this
  | _ :: _, [], h => by have := congrArg List.length h; rw [allBits_length, allBits_length] at this; simp at this
  | x :: s, y :: t, h => by
    rw [show x :: s = [x] ++ s from rfl, show y :: t = [y] ++ t from rfl, allBits_append, allBits_append, allBits_one, allBits_one] at h
    have := List.append_inj h (by simp [bitsOf])
    rw [bits_byte this.1, allBits_inj this.2]

/-- A bit turned over. -/
def flipB (x : UInt8) (r : Nat) : UInt8 := x ^^^ UInt8.ofNat (2 ^ (7 - r))
def flipAt (l : List UInt8) (i : Nat) : List UInt8 := l.set (i / 8) (flipB (l.getD (i / 8) 0) (i % 8))
/-- The first k of the bits that are asked for, from bit a on. -/
def turnB (bit : Nat → Bool) (a : Nat) (s : List UInt8) : Nat → List UInt8
  | 0 => s
  | k + 1 => if bit k = true ∧ (a + k) / 8 < s.length then flipAt (turnB bit a s k) (a + k) else turnB bit a s k
theorem turn_len (bit : Nat → Bool) (a : Nat) (s : List UInt8) : ∀ k, (turnB bit a s k).length = s.length
  | 0 => rfl
  | k + 1 => by
    simp only [turnB]; split
    · simp [flipAt, turn_len bit a s k]
    · exact turn_len bit a s k

theorem flip_bit (x : UInt8) (r q : Nat) (hr : r < 8) (hq : q < 8) : (flipB x r).toNat.testBit (7 - q) = (x.toNat.testBit (7 - q) != decide (q = r)) := by
  unfold flipB
  rw [UInt8.toNat_xor, Nat.testBit_xor]
  have e : (UInt8.ofNat (2 ^ (7 - r))).toNat = 2 ^ (7 - r) := by
    rw [UInt8.toNat_ofNat']
    apply Nat.mod_eq_of_lt
    calc 2 ^ (7 - r) ≤ 2 ^ 7 := Nat.pow_le_pow_right (by omega) (by omega)
      _ < 2 ^ 8 := by decide
  rw [e, Nat.testBit_two_pow]
  congr 1
  exact decide_eq_decide.mpr (by omega)
/-- Turning over one bit leaves the others. -/
theorem flip_bits (l : List UInt8) (i j : Nat) (hi : i / 8 < l.length) : (allBits (flipAt l i))[j]? = ((allBits l)[j]?).map fun x => x != decide (j = i) := by
  rw [allBits_get, allBits_get]
  unfold flipAt
  by_cases hj : j / 8 = i / 8
  · rw [hj, List.getElem?_set_self hi, List.getElem?_eq_getElem hi]
    simp only [Option.map_some, List.getD_eq_getElem?_getD, List.getElem?_eq_getElem hi, Option.getD_some]
    rw [flip_bit _ _ _ (by omega) (by omega)]
    congr 2
    exact decide_eq_decide.mpr (by omega)
  · rw [List.getElem?_set_ne (by omega)]
    have : j ≠ i := fun e => hj (by rw [e])
    simp only [Option.map_map]
    congr 1
    funext x
    simp [this]
theorem turn_bits (bit : Nat → Bool) (a : Nat) (s : List UInt8) (j : Nat) : ∀ k, (allBits (turnB bit a s k))[j]? = ((allBits s)[j]?).map fun x => x != (decide (a ≤ j ∧ j < a + k) && bit (j - a))
  | 0 => by
    have : decide (a ≤ j ∧ j < a + 0) = false := decide_eq_false (by omega)
    rw [this]; simp [turnB]
  | k + 1 => by
    simp only [turnB]
    by_cases hb : bit k = true ∧ (a + k) / 8 < s.length
    · rw [if_pos hb, flip_bits _ _ _ (by rw [turn_len]; exact hb.2), turn_bits bit a s j k, Option.map_map]
      congr 1
      funext x
      simp only [Function.comp_apply]
      by_cases hj : j = a + k
      · rw [hj, show a + k - a = k by omega, hb.1]; simp
      · rw [decide_eq_false hj, show decide (a ≤ j ∧ j < a + (k + 1)) = decide (a ≤ j ∧ j < a + k) from decide_eq_decide.mpr (by omega)]; simp
    · rw [if_neg hb, turn_bits bit a s j k]
      by_cases hj : j = a + k
      · by_cases hb1 : bit k = true
        · have : s.length ≤ (a + k) / 8 := by
            rcases Nat.lt_or_ge ((a + k) / 8) s.length with h | h
            · exact absurd ⟨hb1, h⟩ hb
            · exact h
          rw [List.getElem?_eq_none (by rw [allBits_length]; omega)]; rfl
        · congr 1; funext x
          rw [hj, show a + k - a = k by omega, eq_false_of_ne_true hb1]; simp
      · rw [show decide (a ≤ j ∧ j < a + (k + 1)) = decide (a ≤ j ∧ j < a + k) from decide_eq_decide.mpr (by omega)]
/-- All of it that is turned lies within k bits. -/
theorem turn_parts (bit : Nat → Bool) (a : Nat) (s : List UInt8) (k : Nat) :
    ∃ x e e' c, allBits s = x ++ e ++ c ∧ allBits (turnB bit a s k) = x ++ e' ++ c ∧ e.length = e'.length ∧ e.length ≤ k := by
  have split3 : ∀ l : List Bool, l = l.take a ++ (l.drop a).take k ++ l.drop (a + k) := by
    intro l; rw [List.append_assoc, ← List.drop_drop, List.take_append_drop, List.take_append_drop]
  have hlen : (allBits (turnB bit a s k)).length = (allBits s).length := by rw [allBits_length, allBits_length, turn_len]
  refine ⟨(allBits s).take a, ((allBits s).drop a).take k, ((allBits (turnB bit a s k)).drop a).take k, (allBits s).drop (a + k), split3 _, ?_, by simp [hlen], by simp; omega⟩
  conv => lhs; rw [split3 (allBits (turnB bit a s k))]
  congr 1
  · congr 1
    apply List.ext_getElem?; intro j
    by_cases hj : j < a
    · rw [List.getElem?_take_of_lt hj, List.getElem?_take_of_lt hj, turn_bits, show decide (a ≤ j ∧ j < a + k) = false from decide_eq_false (by omega)]; simp
    · rw [List.getElem?_eq_none (by simp; omega), List.getElem?_eq_none (by simp; omega)]
  · apply List.ext_getElem?; intro j
    rw [List.getElem?_drop, List.getElem?_drop, turn_bits, show decide (a ≤ a + k + j ∧ a + k + j < a + k) = false from decide_eq_false (by omega)]; simp
/-- One bit that is turned over within the bytes: they are others. -/
theorem turn_one (bit : Nat → Bool) (a : Nat) (s : List UInt8) (k i : Nat) (hi : i < k) (hb : bit i = true) (ha : a + i < 8 * s.length) : turnB bit a s k ≠ s := by
  intro h
  have e := turn_bits bit a s (a + i) k
  rw [h, List.getElem?_eq_getElem (by rw [allBits_length]; exact ha), show decide (a ≤ a + i ∧ a + i < a + k) = true from decide_eq_true (by omega), show a + i - a = i by omega, hb] at e
  simp at e

/-- The sum of bytes in which bits within 32 are turned is another. -/
theorem crc_turned {p : Nat} (hp : p < 4294967296) (ho : p % 2 = 1) (bit : Nat → Bool) (a : Nat) (s : List UInt8) (h : turnB bit a s 32 ≠ s) : crc p (turnB bit a s 32) ≠ crc p s := by
  obtain ⟨x, e, e', c, h1, h2, h3, h4⟩ := turn_parts bit a s 32
  intro hc
  have := crc_turn hp ho _ _ x e e' c h1 h2 h3 h4 hc.symm
  rw [this] at h1
  exact h (allBits_inj (h2.trans h1.symm))
/-- What ends in its own sum, with such bits turned, does not. -/
theorem seal_turned {p : Nat} (hp : p < 4294967296) (ho : p % 2 = 1) (bit : Nat → Bool) (a : Nat) (s t : List UInt8) (h : turnB bit a (s ++ fourI (crc p s)) 32 = t ++ fourI (crc p t)) : turnB bit a (s ++ fourI (crc p s)) 32 = s ++ fourI (crc p s) := by
  obtain ⟨x, e, e', c, h1, h2, h3, h4⟩ := turn_parts bit a (s ++ fourI (crc p s)) 32
  have := torn hp ho s t x e e' c h1 (by rw [← h]; exact h2) h3 h4
  rw [this] at h1
  exact allBits_inj (h2.trans h1.symm)
theorem vol_turned {i n : Nat} {s : Nat} {p : List UInt8} (bit : Nat → Bool) (a : Nat) (h : turnB bit a (volB i n s p) 32 ≠ volB i n s p) : volOk (turnB bit a (volB i n s p) 32) = false := by
  obtain ⟨x, e, e', c, h1, h2, h3, h4⟩ := turn_parts bit a (volB i n s p) 32
  refine vol_torn x e e' c h1 h2 h3 h4 ?_
  intro he
  rw [he] at h1
  exact h (allBits_inj (h2.trans h1.symm))
end Go.Proofs.Ytdjpkgaicmklmab

/- A bundle with turned bits is refused; how long a sound replica's bundle is: without the program. -/
namespace Go.Proofs.Ytdjpkgaicmklmab
open Go.RowKit

theorem sum_le (f : Nat → Nat) (c : Nat) : ∀ (l : List Nat), (∀ x ∈ l, f x ≤ c) → (l.map f).sum ≤ l.length * c
  | [], _ => by simp
  | x :: l, h => by
    have := sum_le f c l (fun y hy => h y (by simp [hy]))
    have := h x (by simp)
    simp only [List.map_cons, List.sum_cons, List.length_cons, Nat.add_mul, Nat.one_mul]; omega
theorem Rep.many {R : Rep} (h : R.chk = 0) : R.n1 ≤ 8 ∧ R.n2 ≤ 40 ∧ R.n3 ≤ 16 := by
  have g1 : R.manyB = false := by
    cases hh : R.manyB
    · rfl
    · simp [Rep.chk, hh] at h
  unfold Rep.manyB at g1; simp at g1; omega
/-- A sound replica's bundle can be split. -/
theorem bundle_small {R : Rep} (h : R.chk = 0) : (bundleB (recsOf 0 0 R)).length ≤ 6000 := by
  obtain ⟨m1, m2, m3⟩ := Rep.many h
  have hF := Rep.fit h
  have h1 : ((List.range R.n1).map (fun i => lenF (fdClock (R.c i)))).sum ≤ R.n1 * 28 := by
    have := sum_le (fun i => lenF (fdClock (R.c i))) 28 (List.range R.n1) (fun i _ => by
      have := bytesI_le 9 (R.c i).site; have := bytesI_le 9 (R.c i).count
      show lenF _ ≤ _; rw [lenF_clock]; omega)
    simpa using this
  have h2 : ((List.range R.n2).map (fun i => lenF (fdCard (R.d i)))).sum ≤ R.n2 * 99 := by
    have := sum_le (fun i => lenF (fdCard (R.d i))) 99 (List.range R.n2) (fun i hi => by
      have := bytesI_le 9 (R.d i).site; have := bytesI_le 9 (R.d i).count; have := bytesI_le 9 (R.d i).id; have := (hF.d1 i (List.mem_range.mp hi)).2.2.2
      show lenF _ ≤ _; rw [lenF_card]; omega)
    simpa using this
  have h3 : ((List.range R.n3).map (fun i => lenF (fdEdit (R.e i)))).sum ≤ R.n3 * 78 := by
    have := sum_le (fun i => lenF (fdEdit (R.e i))) 78 (List.range R.n3) (fun i hi => by
      have := bytesI_le 9 (R.e i).id; have := (hF.e1 i (List.mem_range.mp hi)).2
      show lenF _ ≤ _; rw [lenF_edit]; omega)
    simpa using this
  have h0 := lenF_head
  rw [bundleB_length]
  have e : lenL (recsOf 0 0 R) = lenF (fdHead 0 0) + ((List.range R.n1).map (fun i => lenF (fdClock (R.c i)))).sum + ((List.range R.n2).map (fun i => lenF (fdCard (R.d i)))).sum + ((List.range R.n3).map (fun i => lenF (fdEdit (R.e i)))).sum := by
    simp only [lenL, recsOf, recs3, recs2, recs1, List.map_append, List.map_cons, List.map_map, List.sum_append, List.sum_cons, Function.comp_def]
  rw [e]; omega

theorem readRd_sealed {b : List UInt8} (h : (readRd b).err = 0) : b = b.take (b.length - 4) ++ fourI (crc pSeal (b.take (b.length - 4))) := by
  unfold readRd at h
  split at h
  · simp [ansErr] at h
  · split at h
    · rename_i hs
      simp only [sealedB, Bool.and_eq_true, decide_eq_true_eq, beq_iff_eq] at hs
      rw [← hs.2, List.take_append_drop]
    · simp [ansErr] at h
theorem restRd_read {b : List UInt8} (h : (restRd b).err = 0) : (readRd b).err = 0 := by
  unfold restRd restOf at h
  split at h
  · assumption
  · exact h
theorem pSeal_lt : pSeal < 4294967296 := by decide
theorem pSeal_odd : pSeal % 2 = 1 := by decide
/-- A bundle with bits turned over within 32 consecutive ones is refused. -/
theorem read_turned (bit : Nat → Bool) (a : Nat) (l : List Fd) (h : turnB bit a (bundleB l) 32 ≠ bundleB l) : (readRd (turnB bit a (bundleB l) 32)).err ≠ 0 ∧ (restRd (turnB bit a (bundleB l) 32)).err ≠ 0 := by
  have k : (readRd (turnB bit a (bundleB l) 32)).err ≠ 0 := fun h0 => h (seal_turned pSeal_lt pSeal_odd bit a (bodyB l) _ (readRd_sealed h0))
  exact ⟨k, fun h0 => k (restRd_read h0)⟩
end Go.Proofs.Ytdjpkgaicmklmab

/- What Read lets by rises; Replay, Extend and chains: without the program. -/
namespace Go.Proofs.Ytdjpkgaicmklmab
open Go.RowKit

theorem ord_asc : ∀ (l : List Fd) (p : Fd), ordF p l = none → Asc Ck.site (ckOf l) ∧ Asc Cd.id (cdOf l) ∧ (p.kind = 1 → ∀ x ∈ ckOf l, p.site < x.site) ∧
    (p.kind = 2 → ckOf l = [] ∧ ∀ x ∈ cdOf l, p.id < x.id) ∧ (p.kind = 3 → ckOf l = [] ∧ cdOf l = [])
  | [], p, _ => by simp [ckOf, cdOf, Asc]
  | f :: l, p, h => by
    simp only [ordF] at h
    split at h
    · rename_i hf
      obtain ⟨a, b, h1, h2, h3⟩ := ord_asc l f h
      by_cases k1 : f.kind = 1
      · have e1 : ckOf (f :: l) = ⟨f.site, f.count⟩ :: ckOf l := by simp [ckOf, k1]
        have e2 : cdOf (f :: l) = cdOf l := by simp [cdOf, k1]
        have h1 := h1 k1
        simp only [fitB, if_pos k1, Bool.or_eq_true, Bool.and_eq_true, beq_iff_eq, decide_eq_true_eq] at hf
        rw [e1, e2]
        refine ⟨List.pairwise_cons.mpr ⟨fun x hx => h1 x hx, a⟩, b, fun hp x hx => ?_, fun hp => by omega, fun hp => by omega⟩
        rcases List.mem_cons.mp hx with rfl | hx
        · simp only; omega
        · have := h1 x hx; omega
      · by_cases k2 : f.kind = 2
        · have e1 : ckOf (f :: l) = ckOf l := by simp [ckOf, k2]
          have e2 : cdOf (f :: l) = ⟨f.id, f.site, f.count, f.gone, f.text⟩ :: cdOf l := by simp [cdOf, k2]
          obtain ⟨z, h2⟩ := h2 k2
          simp only [fitB, if_neg k1, if_pos k2, Bool.or_eq_true, Bool.and_eq_true, beq_iff_eq, decide_eq_true_eq] at hf
          rw [e1, e2]
          refine ⟨a, List.pairwise_cons.mpr ⟨fun x hx => h2 x hx, b⟩, fun hp x hx => by rw [z] at hx; simp at hx, fun hp => ⟨z, fun x hx => ?_⟩, fun hp => by omega⟩
          rcases List.mem_cons.mp hx with rfl | hx
          · simp only; omega
          · have := h2 x hx; omega
        · by_cases k3 : f.kind = 3
          · have e1 : ckOf (f :: l) = ckOf l := by simp [ckOf, k3]
            have e2 : cdOf (f :: l) = cdOf l := by simp [cdOf, k3]
            obtain ⟨z1, z2⟩ := h3 k3
            rw [e1, e2, z1, z2]; simp [Asc]
          · simp [fitB, k1, k2, k3] at hf
    · cases h
theorem read_asc (b : List UInt8) : Asc Ck.site (readRd b).K ∧ Asc Cd.id (readRd b).C := by
  have he : ∀ e p, Asc Ck.site (ansErr e p).K ∧ Asc Cd.id (ansErr e p).C := fun e p => by simp [ansErr, Asc]
  unfold readRd
  split
  · exact he _ _
  · split
    · split
      · exact he _ _
      · split
        · exact he _ _
        · rename_i hn
          generalize (framed (b.take (b.length - 4))).1 = l at *
          cases l with
          | nil => simp [ordRd] at hn
          | cons f l =>
            simp only [ordRd] at hn
            split at hn
            · rename_i k4
              have h := ord_asc l f hn
              have e1 : ckOf (f :: l) = ckOf l := by simp [ckOf, k4]
              have e2 : cdOf (f :: l) = cdOf l := by simp [cdOf, k4]
              simp only [ansOk]; rw [e1, e2]; exact ⟨h.1, h.2.1⟩
            · cases hn
    · exact he _ _

/-- Lists of a replica. -/
structure Tri where
  K : List Ck
  C : List Cd
  E : List Ed
def Ans.st (x : Ans) : Tri := ⟨x.K, x.C, x.E⟩
def Tri.rep (x : Tri) : Rep := repOf x.K x.C x.E
def layS (a b : Tri) : Tri := ⟨layK Ck.site (fun _ c => c) a.K b.K, layK Cd.id (fun _ c => c) a.C b.C, b.E⟩
def sealR (b : List UInt8) : Int := fourRd (b.drop (b.length - 4))
def seqIx (l : List (List UInt8)) (n : Int) : Nat := l.findIdx (fun b => (readRd b).seq == n)
def linkR (l : List (List UInt8)) (n : Int) : List UInt8 := l.getD (seqIx l n) []
def chainSt (l : List (List UInt8)) : Nat → Tri
  | 0 => (readRd (linkR l 0)).st
  | n + 1 => layS (chainSt l n) (readRd (linkR l ((n + 1 : Nat) : Int))).st
def bad4 (l : List (List UInt8)) (i : Nat) : Bool := (readRd (l.getD i [])).err != 0
def bad5 (l : List (List UInt8)) (i : Nat) : Bool := (l.take i).any fun b => (readRd b).seq == (readRd (l.getD i [])).seq
def bad6 (l : List (List UInt8)) (n : Nat) : Bool := !(l.any fun b => (readRd b).seq == (n : Int))
def bad7 (l : List (List UInt8)) (i : Nat) : Bool := decide (0 < (readRd (l.getD i [])).seq) && sealR (linkR l ((readRd (l.getD i [])).seq - 1)) != (readRd (l.getD i [])).base
def replayRd (l : List (List UInt8)) : Ans :=
  if 16 < l.length then ansErr 1 0 else
  match firstOf (bad4 l) l.length with
  | some i => ansErr (readRd (l.getD i [])).err i
  | none => match firstOf (bad5 l) l.length with
    | some i => ansErr 15 i
    | none => if l.length = 0 ∨ (firstOf (bad6 l) l.length).isSome = true then ansErr 16 0 else
      match firstOf (bad7 l) l.length with
      | some i => ansErr 17 i
      | none => if (chainSt l (l.length - 1)).rep.chk = 0 then ⟨0, 0, 0, 0, (chainSt l (l.length - 1)).K, (chainSt l (l.length - 1)).C, (chainSt l (l.length - 1)).E⟩ else ansErr (chainSt l (l.length - 1)).rep.chk 0

/-- Bundles of a chain, in their order. -/
structure Links (bs : List (List UInt8)) : Prop where
  pos : 0 < bs.length
  few : bs.length ≤ 16
  err : ∀ i, i < bs.length → (readRd (bs.getD i [])).err = 0
  seq : ∀ i, i < bs.length → (readRd (bs.getD i [])).seq = (i : Int)
  base : ∀ i, i + 1 < bs.length → (readRd (bs.getD (i + 1) [])).base = sealR (bs.getD i [])
theorem links_mem {bs : List (List UInt8)} {b : List UInt8} (h : b ∈ bs) : ∃ i, i < bs.length ∧ b = bs.getD i [] := by
  obtain ⟨i, hi, rfl⟩ := List.mem_iff_getElem.mp h
  exact ⟨i, hi, by simp [hi]⟩
theorem Links.link {bs l : List (List UInt8)} (h : Links bs) (hp : l.Perm bs) (n : Nat) (hn : n < bs.length) : linkR l (n : Int) = bs.getD n [] := by
  have hm : bs.getD n [] ∈ l := hp.mem_iff.mpr (volAt_mem hn)
  have ha : seqIx l (n : Int) < l.length := by
    unfold seqIx; rw [List.findIdx_lt_length]; exact ⟨_, hm, by simp only [beq_iff_eq]; exact h.seq n hn⟩
  have hq : (readRd (linkR l (n : Int))).seq = (n : Int) := by
    have := List.findIdx_getElem (w := ha) (p := fun b => (readRd b).seq == (n : Int))
    unfold linkR
    rw [List.getD_eq_getElem?_getD, List.getElem?_eq_getElem ha]
    have e2 := of_decide_eq_true (p := (readRd (l[l.findIdx (fun b => (readRd b).seq == (n : Int))]'ha)).seq = (n : Int)) (by simpa using this)
    exact e2
  have hin : linkR l (n : Int) ∈ l := volAt_mem ha
  obtain ⟨i, hi, e⟩ := links_mem (hp.mem_iff.mp hin)
  have := h.seq i hi
  rw [e, this] at hq
  rw [e, show i = n by omega]
theorem Links.chain {bs l : List (List UInt8)} (h : Links bs) (hp : l.Perm bs) : ∀ n, n < bs.length → chainSt l n = chainSt bs n
  | 0, hn => by
    have h1 := h.link hp 0 hn
    have h2 := h.link (List.Perm.refl bs) 0 hn
    simp only [chainSt]
    rw [show ((0 : Nat) : Int) = 0 from rfl] at h1 h2
    rw [h1, h2]
  | n + 1, hn => by simp only [chainSt]; rw [h.chain hp n (by omega), h.link hp (n + 1) hn, h.link (List.Perm.refl bs) (n + 1) hn]
theorem links_seqs {bs : List (List UInt8)} (h : Links bs) : bs.map (fun b => (readRd b).seq) = (List.range bs.length).map (fun (i : Nat) => (i : Int)) := by
  apply List.ext_getElem?; intro i
  by_cases hi : i < bs.length
  · have := h.seq i hi
    rw [List.getD_eq_getElem?_getD, List.getElem?_eq_getElem hi] at this
    simp [hi]; exact this
  · simp [Nat.le_of_not_lt hi]
/-- A chain, in any order, is replayed to what its states make one over the other. -/
theorem replay_links {bs l : List (List UInt8)} (h : Links bs) (hp : l.Perm bs) (hc : (chainSt bs (bs.length - 1)).rep.chk = 0) :
    replayRd l = ⟨0, 0, 0, 0, (chainSt bs (bs.length - 1)).K, (chainSt bs (bs.length - 1)).C, (chainSt bs (bs.length - 1)).E⟩ := by
  have hl := hp.length_eq
  have pos := h.pos
  have few := h.few
  have hof : ∀ i, i < l.length → ∃ j, j < bs.length ∧ l.getD i [] = bs.getD j [] := fun i hi => links_mem (hp.mem_iff.mp (volAt_mem hi))
  have n4 : ∀ i, i < l.length → bad4 l i = false := by
    intro i hi
    obtain ⟨j, hj, e⟩ := hof i hi
    simp only [bad4]; rw [e, h.err j hj]; rfl
  have hnd : (l.map (fun b => (readRd b).seq)).Nodup := by
    refine (hp.map _).nodup_iff.mpr ?_
    rw [links_seqs h, List.nodup_iff_pairwise_ne, List.pairwise_map]
    refine List.Pairwise.imp ?_ (List.nodup_iff_pairwise_ne.mp (List.nodup_range (n := bs.length)))
    intro a b hab e; omega
  have n5 : ∀ i, i < l.length → bad5 l i = false := by
    intro i hi
    rw [List.nodup_iff_pairwise_ne, List.pairwise_iff_getElem] at hnd
    simp only [bad5, List.any_eq_false, beq_iff_eq]
    intro v hv he
    rw [List.mem_take_iff_getElem] at hv
    obtain ⟨j, hj, rfl⟩ := hv
    refine hnd j i (by simp; omega) (by simpa using hi) (by omega) ?_
    simp only [List.getElem_map]
    rw [he, List.getD_eq_getElem?_getD, List.getElem?_eq_getElem hi]; rfl
  have n6 : ∀ n, n < l.length → bad6 l n = false := by
    intro n hn
    simp only [bad6, Bool.not_eq_false', List.any_eq_true, beq_iff_eq]
    exact ⟨bs.getD n [], hp.mem_iff.mpr (volAt_mem (by omega)), h.seq n (by omega)⟩
  have n7 : ∀ i, i < l.length → bad7 l i = false := by
    intro i hi
    obtain ⟨j, hj, e⟩ := hof i hi
    simp only [bad7]
    rw [e, h.seq j hj]
    cases j with
    | zero => rfl
    | succ j =>
      rw [show ((j + 1 : Nat) : Int) - 1 = (j : Int) by omega, h.link hp j (by omega), h.base j hj]
      simp
  unfold replayRd
  rw [if_neg (by omega), firstOf_none.mpr n4, firstOf_none.mpr n5]
  simp only
  rw [if_neg (by
    rw [firstOf_none.mpr n6]
    rintro (q | q)
    · omega
    · cases q), firstOf_none.mpr n7]
  simp only
  rw [hl, h.chain hp _ (by omega), if_pos hc]
end Go.Proofs.Ytdjpkgaicmklmab

/- Extend: a chain and one link more: without the program. -/
namespace Go.Proofs.Ytdjpkgaicmklmab
open Go.RowKit

instance decCk : DecidableEq Ck := fun a b => match a, b with
  | ⟨i, s⟩, ⟨j, t⟩ => if h : i = j ∧ s = t then isTrue (by rw [h.1, h.2]) else isFalse (fun e => by injection e with e1 e2; exact h ⟨e1, e2⟩)
instance decCd : DecidableEq Cd := fun a b => match a, b with
  | ⟨i, s, c, g, t⟩, ⟨i', s', c', g', t'⟩ => if h : i = i' ∧ s = s' ∧ c = c' ∧ g = g' ∧ t = t' then isTrue (by rw [h.1, h.2.1, h.2.2.1, h.2.2.2.1, h.2.2.2.2]) else isFalse (fun e => by injection e with e1 e2 e3 e4 e5; exact h ⟨e1, e2, e3, e4, e5⟩)

theorem range_getD {α : Type} (l : List α) (d : α) : (List.range l.length).map (fun i => l.getD i d) = l := by
  apply List.ext_getElem?; intro i
  by_cases hi : i < l.length
  · simp [hi]
  · simp [Nat.le_of_not_lt hi]
theorem asc_of {α : Type} (key : α → Int) (d : α) (l : List α) (h : ∀ i, i + 1 < l.length → key (l.getD i d) < key (l.getD (i + 1) d)) : Asc key l := by
  have all : ∀ (i k : Nat), i + k + 1 < l.length → key (l.getD i d) < key (l.getD (i + k + 1) d) := by
    intro i k
    induction k with
    | zero => exact h i
    | succ k ih => intro hk; have := ih (by omega); have := h (i + k + 1) (by omega); rw [show i + (k + 1) + 1 = i + k + 1 + 1 by omega]; omega
  unfold Asc
  rw [List.pairwise_iff_getElem]
  intro i j hi hj hij
  have := all i (j - i - 1) (by omega)
  rw [show i + (j - i - 1) + 1 = j by omega] at this
  simpa [hi, hj] using this
theorem asc_next {α : Type} (key : α → Int) (d : α) {l : List α} (h : Asc key l) (i : Nat) (hi : i + 1 < l.length) : key (l.getD i d) < key (l.getD (i + 1) d) := by
  unfold Asc at h
  rw [List.pairwise_iff_getElem] at h
  have := h i (i + 1) (by omega) hi (by omega)
  simpa [hi, show i < l.length by omega] using this
theorem Tri.asc {r : Tri} (h : r.rep.chk = 0) : Asc Ck.site r.K ∧ Asc Cd.id r.C := by
  have := Rep.rising h
  exact ⟨asc_of Ck.site ck0 r.K (fun i hi => this.c i hi), asc_of Cd.id cd0 r.C (fun i hi => this.d i hi)⟩

def diffS (o r : Tri) : Tri := ⟨r.K.filter (fun c => decide (look Ck.site o.K c.site ≠ some c)), r.C.filter (fun c => decide (look Cd.id o.C c.id ≠ some c)), r.E⟩
def followK (o r : List Ck) : Bool := o.all fun c => match look Ck.site r c.site with
  | some d => decide (c.count ≤ d.count)
  | none => false
def followC (o r : List Cd) : Bool := o.all fun c => match look Cd.id r c.id with
  | some d => laterB d c || decide (d = c)
  | none => false
def followB (o r : Tri) : Bool := followK o.K r.K && followC o.C r.C
theorem follow_has {o r : Tri} (h : followB o r = true) : (∀ x ∈ o.K, ∃ y ∈ r.K, y.site = x.site) ∧ (∀ x ∈ o.C, ∃ y ∈ r.C, y.id = x.id) := by
  simp only [followB, followK, followC, Bool.and_eq_true, List.all_eq_true] at h
  constructor
  · intro x hx
    have := h.1 x hx
    split at this
    · rename_i d hd; exact ⟨d, (look_mem Ck.site hd).1, (look_mem Ck.site hd).2⟩
    · cases this
  · intro x hx
    have := h.2 x hx
    split at this
    · rename_i d hd; exact ⟨d, (look_mem Cd.id hd).1, (look_mem Cd.id hd).2⟩
    · cases this
/-- What changed, laid over what it follows, is it. -/
theorem lay_diffS {o r : Tri} (ho : Asc Ck.site o.K ∧ Asc Cd.id o.C) (hr : Asc Ck.site r.K ∧ Asc Cd.id r.C) (h : followB o r = true) : layS o (diffS o r) = r := by
  obtain ⟨h1, h2⟩ := follow_has h
  have a := lay_diff Ck.site (fun c => decide (look Ck.site o.K c.site ≠ some c)) ho.1 hr.1 h1 (fun c _ hc => by simpa using hc)
  have b := lay_diff Cd.id (fun c => decide (look Cd.id o.C c.id ≠ some c)) ho.2 hr.2 h2 (fun c _ hc => by simpa using hc)
  unfold layS diffS
  simp only
  rw [a, b]
theorem mem_fit {r : Tri} (h : Fit r.rep) : (∀ x ∈ r.K, Num x.site ∧ Num x.count) ∧ (∀ x ∈ r.C, Num x.id ∧ Num x.site ∧ Num x.count ∧ x.text.size ≤ 60) ∧ (∀ x ∈ r.E, Num x.id ∧ x.text.size ≤ 60) := by
  refine ⟨fun x hx => ?_, fun x hx => ?_, fun x hx => ?_⟩
  · obtain ⟨i, hi, rfl⟩ := List.mem_iff_getElem.mp hx
    have := h.c1 i hi; simpa [Tri.rep, repOf, hi] using this
  · obtain ⟨i, hi, rfl⟩ := List.mem_iff_getElem.mp hx
    have := h.d1 i hi; simpa [Tri.rep, repOf, hi] using this
  · obtain ⟨i, hi, rfl⟩ := List.mem_iff_getElem.mp hx
    have := h.e1 i hi; simpa [Tri.rep, repOf, hi] using this
theorem diff_fit {o r : Tri} (hr : r.rep.chk = 0) : Fit (diffS o r).rep := by
  have hF := Rep.fit hr
  obtain ⟨m1, m2, m3⟩ := mem_fit hF
  have l1 : (diffS o r).K.length ≤ r.K.length := List.length_filter_le ..
  have l2 : (diffS o r).C.length ≤ r.C.length := List.length_filter_le ..
  refine ⟨Nat.le_trans l1 hF.n1, Nat.le_trans l2 hF.n2, hF.n3, fun i hi => ?_, fun i hi => ?_, fun i hi => ?_⟩
  · exact m1 _ (List.mem_filter.mp (getD_mem (d := ck0) hi)).1
  · exact m2 _ (List.mem_filter.mp (getD_mem (d := cd0) hi)).1
  · exact m3 _ (getD_mem (d := ed0) hi)
theorem diff_rising {o r : Tri} (hr : r.rep.chk = 0) : Rising (diffS o r).rep := by
  obtain ⟨a, b⟩ := Tri.asc hr
  have a2 : Asc Ck.site (diffS o r).K := List.Pairwise.filter _ a
  have b2 : Asc Cd.id (diffS o r).C := List.Pairwise.filter _ b
  exact ⟨fun i hi => asc_next Ck.site ck0 a2 i hi, fun i hi => asc_next Cd.id cd0 b2 i hi⟩
theorem sealR_bound (b : List UInt8) : 0 ≤ sealR b ∧ sealR b ≤ 4294967295 := by
  unfold sealR fourRd
  generalize b.drop (b.length - 4) = s
  have h0 := (s.getD 0 0).toNat_lt
  have h1 := (s.getD 1 0).toNat_lt
  have h2 := (s.getD 2 0).toNat_lt
  have h3 := (s.getD 3 0).toNat_lt
  omega

/-- The bundle of the next link. -/
def nextB (n : Nat) (last : List UInt8) (o r : Tri) : List UInt8 := bundleB (recsOf (n : Int) (sealR last) (diffS o r).rep)
theorem next_read {n : Nat} (h0 : 0 < n) (h16 : n ≤ 16) {last : List UInt8} {o r : Tri} (hr : r.rep.chk = 0) : readRd (nextB n last o r) = ⟨n, sealR last, 0, 0, (diffS o r).K, (diffS o r).C, (diffS o r).E⟩ := by
  have hs := sealR_bound last
  unfold nextB
  rw [readRd_bundle (diff_fit hr) (diff_rising hr) ⟨by omega, by omega⟩ hs.1 hs.2 (fun h => by omega)]
  simp only [Tri.rep, repOf]
  rw [range_getD, range_getD, range_getD]
theorem get_snoc {bs : List (List UInt8)} {b : List UInt8} (i : Nat) (hi : i < bs.length) : (bs ++ [b]).getD i [] = bs.getD i [] := by
  rw [List.getD_eq_getElem?_getD, List.getElem?_append_left hi, ← List.getD_eq_getElem?_getD]
theorem get_last {bs : List (List UInt8)} {b : List UInt8} : (bs ++ [b]).getD bs.length [] = b := by simp
/-- A chain of one. -/
theorem links_one {R : Rep} (h : R.chk = 0) : Links [bundleB (recsOf 0 0 R)] ∧ chainSt [bundleB (recsOf 0 0 R)] 0 = ⟨(List.range R.n1).map R.c, (List.range R.n2).map R.d, (List.range R.n3).map R.e⟩ := by
  have e := readRd_bundle (Rep.fit h) (Rep.rising h) (s := 0) (b := 0) ⟨by decide, by decide⟩ (by decide) (by decide) (fun _ => rfl)
  have hL : Links [bundleB (recsOf 0 0 R)] := by
    refine ⟨by simp, by simp, fun i hi => ?_, fun i hi => ?_, fun i hi => ?_⟩
    · have : i = 0 := by simpa using hi
      subst this; show (readRd (bundleB (recsOf 0 0 R))).err = 0; rw [e]
    · have : i = 0 := by simpa using hi
      subst this; show (readRd (bundleB (recsOf 0 0 R))).seq = 0; rw [e]
    · simp at hi
  refine ⟨hL, ?_⟩
  have h1 := hL.link (List.Perm.refl _) 0 (by simp)
  simp only [chainSt]
  rw [show ((0 : Nat) : Int) = 0 from rfl] at h1
  rw [h1]
  show (readRd (bundleB (recsOf 0 0 R))).st = _
  rw [e]; rfl
/-- A chain with the next link is one, and makes what was handed in. -/
theorem links_next {bs : List (List UInt8)} {r : Tri} (h : Links bs) (hn : bs.length < 16) (ho : (chainSt bs (bs.length - 1)).rep.chk = 0) (hr : r.rep.chk = 0) (hf : followB (chainSt bs (bs.length - 1)) r = true) :
    Links (bs ++ [nextB bs.length (bs.getD (bs.length - 1) []) (chainSt bs (bs.length - 1)) r]) ∧
    chainSt (bs ++ [nextB bs.length (bs.getD (bs.length - 1) []) (chainSt bs (bs.length - 1)) r]) bs.length = r := by
  have pos := h.pos
  generalize ho' : chainSt bs (bs.length - 1) = o at *
  have e := next_read (n := bs.length) pos (by omega) (last := bs.getD (bs.length - 1) []) (o := o) hr
  generalize hb : nextB bs.length (bs.getD (bs.length - 1) []) o r = b at *
  have hlen : (bs ++ [b]).length = bs.length + 1 := by simp
  have hL : Links (bs ++ [b]) := by
    refine ⟨by simp, by simp; omega, fun i hi => ?_, fun i hi => ?_, fun i hi => ?_⟩
    · rw [hlen] at hi
      by_cases hi2 : i < bs.length
      · rw [get_snoc i hi2]; exact h.err i hi2
      · rw [show i = bs.length by omega, get_last, e]
    · rw [hlen] at hi
      by_cases hi2 : i < bs.length
      · rw [get_snoc i hi2]; exact h.seq i hi2
      · rw [show i = bs.length by omega, get_last, e]
    · rw [hlen] at hi
      rw [get_snoc i (by omega)]
      by_cases hi2 : i + 1 < bs.length
      · rw [get_snoc (i + 1) hi2]; exact h.base i hi2
      · rw [show i + 1 = bs.length by omega, get_last, e, show i = bs.length - 1 by omega]
  refine ⟨hL, ?_⟩
  have hold : ∀ n, n < bs.length → chainSt (bs ++ [b]) n = chainSt bs n := by
    intro n
    induction n with
    | zero =>
      intro hn'
      have h1 := hL.link (List.Perm.refl _) 0 (by simp)
      have h2 := h.link (List.Perm.refl _) 0 hn'
      rw [get_snoc 0 hn'] at h1
      rw [show ((0 : Nat) : Int) = 0 from rfl] at h1 h2
      simp only [chainSt]; rw [h1, h2]
    | succ n ih =>
      intro hn'
      have h1 := hL.link (List.Perm.refl _) (n + 1) (by simp; omega)
      have h2 := h.link (List.Perm.refl _) (n + 1) hn'
      rw [get_snoc (n + 1) hn'] at h1
      simp only [chainSt]; rw [ih (by omega), h1, h2]
  obtain ⟨k, hk⟩ : ∃ k, bs.length = k + 1 := ⟨bs.length - 1, by omega⟩
  have h1 := hL.link (List.Perm.refl _) bs.length (by simp)
  rw [get_last] at h1
  have h3 : chainSt (bs ++ [b]) bs.length = layS (chainSt (bs ++ [b]) k) (readRd (linkR (bs ++ [b]) (bs.length : Nat))).st := by rw [hk]; rfl
  rw [h3, h1, hold k (by omega), show k = bs.length - 1 by omega, ho', e]
  exact lay_diffS (Tri.asc ho) (Tri.asc hr) hf

/-- What Extend answers. -/
structure Xt where
  b : List UInt8
  err : Int
  place : Int
def extendRd (l : List (List UInt8)) (r : Tri) : Xt :=
  if (replayRd l).err = 0 then
    if 16 ≤ l.length then ⟨[], 1, 0⟩
    else if r.rep.chk = 0 then
      if followB (replayRd l).st r = true then ⟨nextB l.length (linkR l ((l.length - 1 : Nat) : Int)) (replayRd l).st r, 0, 0⟩ else ⟨[], 18, 0⟩
    else ⟨[], r.rep.chk, 0⟩
  else ⟨[], (replayRd l).err, (replayRd l).place⟩
theorem extend_links {bs l : List (List UInt8)} {r : Tri} (h : Links bs) (hp : l.Perm bs) (hn : bs.length < 16) (ho : (chainSt bs (bs.length - 1)).rep.chk = 0) (hr : r.rep.chk = 0) (hf : followB (chainSt bs (bs.length - 1)) r = true) :
    extendRd l r = ⟨nextB bs.length (bs.getD (bs.length - 1) []) (chainSt bs (bs.length - 1)) r, 0, 0⟩ := by
  have pos := h.pos
  have e := replay_links h hp ho
  have e1 : (replayRd l).err = 0 := by rw [e]
  have e2 : (replayRd l).st = chainSt bs (bs.length - 1) := by rw [e]; rfl
  unfold extendRd
  rw [if_pos e1, e2, hp.length_eq, if_neg (by omega), if_pos hr, if_pos hf, h.link hp _ (by omega)]
end Go.Proofs.Ytdjpkgaicmklmab

