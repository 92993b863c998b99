/- Texts of the proof, one behind the other; what each holds is said at its head. -/
import Derived.Test.YtdjpkgaicmklmaaGreatPartExtendsupto6
import Derived.Test.YtdjpkgaicmklmaaGreatPartExtendsupto10
import Derived.Test.YtdjpkgaicmklmaaGreatPartExtendsupto4
import Derived.Test.YtdjpkgaicmklmaaGreatPartExtendsupto0
import Derived.ProofKit
import Derived.SizedLaws
import Derived.Lib.SmallJoins
import Derived.Deep.Slices
import Derived.SliceStrings
import Derived.Carry
/- While the owner writes a list of strings over: as for lists of records, but the mark lies in no variable. -/
namespace Go.Proofs.YtdjpkgaicmklmaaGreat
open Go.RowKit

def ShSt (l : List Value) : Prop := ∃ s : List UInt8, l = [.string (str s)]

structure Su (Sh : List Value → Prop) (w0 w : World) (B B1 go tT e eb m f : Nat) (oc mk : List Value) (ad : Option Addr) (N cap : Nat) (a4 : Option Addr) (c4 : Nat) (L : List Bk) : Prop where
  o : Bx w go tT oc
  l : Vec w B1 e m ad N cap (rep N mk)
  b : Vec w B eb (m + 1) a4 L.length c4 (bcells L)
  each : ∀ x, x ∈ L → Reads1 Sh w B e m x ∧ ((∀ b, x.ad = some b → b.block < B1) ∨ x.mrk = mk)
  at_ : oc[f]? = some (.slice a4 L.length c4)
  mark : mk.length = m
  low : B ≤ go
  big : B ≤ B1
  old : Below B w0 w
  but : But3 go e eb w0 w

theorem Su.step {Sh : List Value → Prop} {w0 w w' : World} {B B1 go tT e eb m f : Nat} {oc mk : List Value} {ad : Option Addr} {N cap : Nat} {a4 : Option Addr} {c4 : Nat} {L : List Bk} (h : Su Sh w0 w B B1 go tT e eb m f oc mk ad N cap a4 c4 L) (hb : Below w.heap.size w w') (hB : B ≤ w.heap.size) : Su Sh w0 w' B B1 go tT e eb m f oc mk ad N cap a4 c4 L :=
  ⟨h.o.below hb h.o.lt, h.l.keep hb, h.b.keep hb, fun x hx => ⟨⟨(h.each x hx).1.len, (h.each x hx).1.vec.keep hb, (h.each x hx).1.few, (h.each x hx).1.shape⟩, (h.each x hx).2⟩, h.at_, h.mark, h.low, h.big, h.old.trans (hb.mono hB), h.but.trans (But3.of_below hb)⟩
theorem Su.push {Sh : List Value → Prop} {w0 w w' : World} {B B1 go tT e eb m f : Nat} {oc mk : List Value} {ad : Option Addr} {N cap : Nat} {a4 : Option Addr} {c4 : Nat} {L : List Bk} (h : Su Sh w0 w B B1 go tT e eb m f oc mk ad N cap a4 c4 L) (hk : Kp (ad.map (·.block)) mk w w')
    (h1 : e ≠ tT) (h2 : e ≠ eb) (hB : B ≤ w.heap.size) : Su Sh w0 w' B B1 go tT e eb m f oc mk ad N cap a4 c4 L := by
  refine ⟨h.o.kp hk (h.o.apart h.l h1), h.l.kp h.mark hk (fun _ _ _ => rfl), h.b.kpo hk (fun b hb hb' => ?_), fun x hx => ?_, h.at_, h.mark, h.low, h.big, hk.below h.old hB (fun k e => Nat.le_trans h.big (h.l.typed k e).1), h.but.trans (But3.of_kp hk fun k e => ?_)⟩
  · exact h.b.apart h.l (fun e => h2 e.symm) b hb hb'
  · obtain ⟨h3, h4⟩ := h.each x hx
    refine ⟨⟨h3.len, h3.vec.kp h3.len hk (fun b hb hb' => ?_), h3.few, h3.shape⟩, h4⟩
    rcases h4 with h4 | h4
    · have := (h.l.typed _ hb').1; have := h4 b hb; omega
    · exact h4
  · obtain ⟨_, cur, hc⟩ := h.l.typed k e; exact ⟨cur, _, hc, Or.inl rfl⟩
theorem Su.book {Sh : List Value → Prop} {w0 w w' : World} {B B1 go tT e eb m f : Nat} {oc mk : List Value} {ad : Option Addr} {N cap : Nat} {a4 : Option Addr} {c4 : Nat} {L : List Bk} (h : Su Sh w0 w B B1 go tT e eb m f oc mk ad N cap a4 c4 L) {x : Bk} {a5 : Option Addr} {c5 : Nat}
    (hv : Vec w' B eb (m + 1) a5 (L.length + 1) c5 (bcells L ++ x.cells)) (hk : Kp (a4.map (·.block)) x.cells w w') (hx : Reads1 Sh w B e m x) (hm : x.mrk = mk) (h1 : eb ≠ tT) (h2 : e ≠ eb) (h3 : e ≠ tT) (hf : f < oc.length) (hB : B ≤ w.heap.size) :
    Su Sh w0 (w'.setCell ⟨go, f, none⟩ (.slice a5 (L.length + 1) c5)) B B1 go tT e eb m f (oc.set f (.slice a5 (L.length + 1) c5)) mk ad N cap a5 c5 (L ++ [x]) := by
  have hu : Upd go w' (w'.setCell ⟨go, f, none⟩ (.slice a5 (L.length + 1) c5)) := (Upd.refl go w').setCell _ rfl _
  have ho : Bx w' go tT oc := h.o.kp hk (h.o.apart h.b h1)
  have hl : Vec w' B1 e m ad N cap (rep N mk) := h.l.kpo hk (fun b hb hb' => h.l.apart h.b h2 b hb hb')
  have each : ∀ y, Reads1 Sh w B e m y → Reads1 Sh (w'.setCell ⟨go, f, none⟩ (.slice a5 (L.length + 1) c5)) B e m y := fun y hy => by
    have := hy.vec.kpo hk (fun b hb hb' => hy.vec.apart h.b h2 b hb hb')
    exact ⟨hy.len, this.updo hu (fun b hb e1 => ho.apart this h3 (by rw [hb]; simp [e1])), hy.few, hy.shape⟩
  refine ⟨ho.setCell f _, hl.updo hu (fun b hb e1 => ho.apart hl h3 (by rw [hb]; simp [e1])), ?_, fun y hy => ?_, ?_, h.mark, h.low, h.big, ?_, ?_⟩
  · rw [bcells_snoc, List.length_append]
    exact hv.updo hu (fun b hb e1 => ho.apart hv h1 (by rw [hb]; simp [e1]))
  · rcases List.mem_append.1 hy with hy | hy
    · exact ⟨each y (h.each y hy).1, (h.each y hy).2⟩
    · simp at hy; subst hy; exact ⟨each _ hx, Or.inr hm⟩
  · simp [hf]
  · exact hu.below (hk.below h.old hB (fun k e => (h.b.typed k e).1)) h.low
  · exact (h.but.trans (But3.of_kp hk fun k e1 => by obtain ⟨_, cur, hc⟩ := h.b.typed k e1; exact ⟨cur, _, hc, Or.inr rfl⟩)).trans (But3.of_upd hu (Or.inl rfl))
/-- .. and the owner's variable bears the longer list. -/
theorem Su.book2 {Sh : List Value → Prop} {w0 w w' w'' : World} {B B1 go tT e eb m f q : Nat} {oc mk : List Value} {ad : Option Addr} {N cap : Nat} {a4 : Option Addr} {c4 : Nat} {L : List Bk} (h : Su Sh w0 w B B1 go tT e eb m f oc mk ad N cap a4 c4 L) {x : Bk} {a5 : Option Addr} {c5 : Nat}
    (hv : Vec w' B eb (m + 1) a5 (L.length + 1) c5 (bcells L ++ x.cells)) (hk : Kp (a4.map (·.block)) x.cells w w') (hu : Upd go w' w'') (hO : Bx w'' go tT (oc.set f (.slice a5 (L.length + 1) c5))) (hx : Reads1 Sh w B e m x) (hm : x.mrk = mk) (h1 : eb ≠ tT) (h2 : e ≠ eb) (h3 : e ≠ tT) (hf : f < oc.length) (hB : B ≤ w.heap.size) (hq : L.length = q) :
    ∃ L1, L1.length = q + 1 ∧ B ≤ w''.heap.size ∧ Su Sh w0 w'' B B1 go tT e eb m f (oc.set f (.slice a5 L1.length c5)) mk ad N cap a5 c5 L1 := by
  have ho : Bx w' go tT oc := h.o.kp hk (h.o.apart h.b h1)
  have hl : Vec w' B1 e m ad N cap (rep N mk) := h.l.kpo hk (fun b hb hb' => h.l.apart h.b h2 b hb hb')
  have each : ∀ y, Reads1 Sh w B e m y → Reads1 Sh w'' B e m y := fun y hy => by
    have := hy.vec.kpo hk (fun b hb hb' => hy.vec.apart h.b h2 b hb hb')
    exact ⟨hy.len, this.updo hu (fun b hb e1 => ho.apart this h3 (by rw [hb]; simp [e1])), hy.few, hy.shape⟩
  have e1 : (L ++ [x]).length = L.length + 1 := by simp
  refine ⟨L ++ [x], by rw [e1, hq], by rw [hu.size]; exact Nat.le_trans hB hk.size, by rw [e1]; exact hO, hl.updo hu (fun b hb e1 => ho.apart hl h3 (by rw [hb]; simp [e1])), ?_, fun y hy => ?_, ?_, h.mark, h.low, h.big, ?_, ?_⟩
  · rw [bcells_snoc, e1]
    exact hv.updo hu (fun b hb e1 => ho.apart hv h1 (by rw [hb]; simp [e1]))
  · rcases List.mem_append.1 hy with hy | hy
    · exact ⟨each y (h.each y hy).1, (h.each y hy).2⟩
    · simp at hy; subst hy; exact ⟨each _ hx, Or.inr hm⟩
  · simp [hf]
  · exact hu.below (hk.below h.old hB (fun k e => (h.b.typed k e).1)) h.low
  · exact (h.but.trans (But3.of_kp hk fun k e1 => by obtain ⟨_, cur, hc⟩ := h.b.typed k e1; exact ⟨cur, _, hc, Or.inr rfl⟩)).trans (But3.of_upd hu (Or.inl rfl))
theorem Su.six {Sh : List Value → Prop} {w0 w X w6 : World} {B B1 go tT e eb m f : Nat} {oc mk row : List Value} {ad : Option Addr} {N cap : Nat} {a4 : Option Addr} {c4 : Nat} {L : List Bk} (hk : Kp (a4.map (·.block)) row X w6) (h : Su Sh w0 w B B1 go tT e eb m f oc mk ad N cap a4 c4 L) (hb : Below w.heap.size w X) (hB : B ≤ w.heap.size) (h1 : eb ≠ tT) {x : Bk} (hx : Reads1 Sh w B e m x) :
    Reads1 Sh X B e m x ∧ B ≤ X.heap.size ∧ Su Sh w0 X B B1 go tT e eb m f oc mk ad N cap a4 c4 L ∧ w6.cell? ⟨go, f, none⟩ = some (.slice a4 L.length c4) ∧ w6.frozen? ⟨go, f, none⟩ = false := by
  have h2 := h.step hb hB
  have h3 := h2.o.kp hk (h2.o.apart h2.b h1)
  exact ⟨⟨hx.len, hx.vec.keep hb, hx.few, hx.shape⟩, Nat.le_trans hB hb.size, h2, by rw [h3.cell, h.at_], h3.frozen f⟩
theorem Su.start {Sh : List Value → Prop} {w w1 w3 : World} {B B1 go tT e eb m f : Nat} {oc0 oc mk xs : List Value} {ad : Option Addr} {N cap : Nat} {a4 : Option Addr} {c4 : Nat} {L : List Bk} (hO : Bx w go tT oc0) (hO1 : Bx w1 go tT oc) (hU : Upd go w w1) (hK : Books Sh w B e eb m a4 c4 L)
    (hfr : ∀ x, x ∈ L → ∀ b, x.ad = some b → b.block < B1) (hv : Vec w B1 e m ad N cap xs) (hu : Upo (ad.map (·.block)) w1 w3) (hv3 : Vec w3 B1 e m ad N cap (rep N mk)) (hf : oc[f]? = some (.slice a4 L.length c4)) (hm : mk.length = m)
    (hB : B ≤ go) (hB1 : B ≤ B1) (h1 : e ≠ tT) (h2 : eb ≠ tT) (h3 : e ≠ eb) : Su Sh w w3 B B1 go tT e eb m f oc mk ad N cap a4 c4 L := by
  have hz := hU.size
  have hlt : ∀ k, ad.map (·.block) = some k → B1 ≤ k ∧ k < w1.heap.size ∧ k ≠ go := by
    intro k hk
    obtain ⟨h4, cur, hc⟩ := hv.typed k hk
    refine ⟨h4, by rw [hz]; exact (Array.getElem?_eq_some_iff.1 hc).1, fun e1 => hO.apart hv h1 (by rw [hk, e1])⟩
  have tr : ∀ {B' e' m' : Nat} {ad' : Option Addr} {n' cap' : Nat} {xs' : List Value}, Vec w B' e' m' ad' n' cap' xs' → e' ≠ tT → (∀ b, ad' = some b → ad.map (·.block) ≠ some b.block) → Vec w3 B' e' m' ad' n' cap' xs' := by
    intro B' e' m' ad' n' cap' xs' h4 h5 h6
    exact (h4.updo hU (fun b hb e1 => hO.apart h4 h5 (by rw [hb]; simp [e1]))).upo hu h6
  refine ⟨hO1.upo hu (fun e1 => (hlt _ e1).2.2 rfl), hv3, tr hK.list h2 (fun b hb e1 => hK.list.apart hv (fun e => h3 e.symm) b hb e1), fun x hx => ⟨⟨(hK.each x hx).len, tr (hK.each x hx).vec h1 (fun b hb e1 => ?_), (hK.each x hx).few, (hK.each x hx).shape⟩, Or.inl (hfr x hx)⟩, hf, hm, hB, hB1, ?_, ?_⟩
  · have := hfr x hx b hb; have := (hlt _ e1).1; omega
  · exact hu.below (hU.below (Below.refl _ _) hB) (fun k hk => Nat.le_trans hB1 (hlt k hk).1)
  · refine (But3.of_upd hU (Or.inl rfl)).trans (But3.of_upo hu fun k hk => ?_)
    obtain ⟨_, cur, hc⟩ := hv.typed k hk
    refine ⟨cur, e, ?_, Or.inl rfl⟩
    rw [hU.block k (hlt k hk).2.2]; exact hc
end Go.Proofs.YtdjpkgaicmklmaaGreat

/- The owner writes over what came out: (*parcellaw.own).strings, walked. -/
namespace Go.Proofs.YtdjpkgaicmklmaaGreat
open Go.RowKit
attribute [local go_sem] str_size str_append mk_append_str str_append_mk

theorem rep_set (v : Value) : ∀ (i : Nat) (ys : List Value), 0 < ys.length → (rep i [v] ++ ys).set i v = rep (i + 1) [v] ++ ys.drop 1 := by
  intro i ys hy
  have hl : (rep i [v]).length = i := by rw [rep_length]; simp
  rw [List.set_append_right _ _ (by omega), hl, Nat.sub_self, rep_add, rep_one, List.append_assoc]
  cases ys with
  | nil => simp at hy
  | cons y ys => simp
abbrev bkOf {Sh : List Value → Prop} {w : World} {B e m : Nat} {x : Bk} (_ : Reads1 Sh w B e m x) : Bk := x
def mkS (k : Nat) : List UInt8 := [109, 97, 114, 107] ++ List.replicate k 46
theorem mkS_succ (k : Nat) : mkS k ++ [46] = mkS (k + 1) := by simp [mkS, List.replicate_succ']
theorem mkS_len (k : Nat) : (mkS k).length = k + 4 := by simp [mkS]

end Go.Proofs.YtdjpkgaicmklmaaGreat

/- Splits: called with any bytes, up to very many, and any size, it answers true. -/
namespace Go.Proofs.YtdjpkgaicmklmaaGreat
open Go.RowKit
attribute [local go_sem] str_beq

set_option maxRecDepth 100000 in
set_option maxHeartbeats 4000000 in
theorem sameStrings_any (N : Nat) (F : Nat → List UInt8) (a b : Option Addr) (ca cb : Nat) (w : World) (hA : Lies w a N 1 (fun i => [.string (str (F i))])) (hB : Lies w b N 1 (fun i => [.string (str (F i))])) (hN : N ≤ 9223372036854775807) :
    Calls Tryz.prog 19 #[.slice a N ca, .slice b N cb] w fun e w' => e = .returned (.bool true) ∧ Below w.heap.size w w' := by
  go_enter Tryz.func19, Tryz.ntmps19
  go_wp2
  go_loopw [5] (fun u wr => ∃ j : Nat, j ≤ N ∧ u = .int .i64 j ∧ Below w.heap.size w wr) (fun u _ => N - (intOf u).toNat)
  case atStart => exact ⟨0, Nat.zero_le _, rfl, Below.refl _ _⟩
  case round =>
    obtain ⟨j, hj, rfl, hbr⟩ := hrel
    by_cases hlt : j < N
    · obtain ⟨b, o, hbl, hix, hc⟩ := (hA.below hbr).at ca (P := Tryz.prog) (t := 22) (by kernel_rfl) (by kernel_rfl) hlt
      obtain ⟨b', o', hbl', hix', hd⟩ := (hB.below hbr).at cb (P := Tryz.prog) (t := 22) (by kernel_rfl) (by kernel_rfl) hlt
      have c0 : wr.cell? ⟨b, o, none⟩ = some (.string (str (F j))) := hc 0 _ (by omega) rfl
      have d0 : wr.cell? ⟨b', o', none⟩ = some (.string (str (F j))) := hd 0 _ (by omega) rfl
      clear hc hd
      go_wp2
      go_quiet (fail)
      go_wp2
      go_roundw
      case rel => exact ⟨j + 1, by omega, by go_num, below_drewN hbr _⟩
      case measure => simp [intOf]; omega
    · go_wp2
      go_ret
      exact ⟨rfl, hbr⟩

theorem splitL_length (b : List UInt8) (size : Int) : (splitL b size).length ≤ 256 := by
  unfold splitL
  split
  · rename_i h
    rw [vols_len]
    exact Nat.le_of_lt (cnt_small _ _ (by have := h.1; omega) h.2.2)
  · simp

end Go.Proofs.YtdjpkgaicmklmaaGreat

/- Lists of strings that are handed in with spare room, and looked at behind the call: walked; Joins. -/
namespace Go.Proofs.YtdjpkgaicmklmaaGreat
open Go.RowKit
attribute [local go_sem] str_beq

/-- The mark of the spare room. -/
def foS : List UInt8 := [102, 111, 114, 101, 105, 103, 110]
def roomS (i : Nat) : List (List UInt8) := List.replicate i foS ++ List.replicate (2 - i) []
theorem roomS_len (i : Nat) (h : i ≤ 2) : (roomS i).length = 2 := by simp [roomS]; omega
theorem roomS_set (l : List (List UInt8)) (i : Nat) (h : i < 2) : (l ++ roomS i).set (l.length + i) foS = l ++ roomS (i + 1) := by
  rw [List.set_append_right _ _ (by omega), Nat.add_sub_cancel_left]
  congr 1
  match i, h with
  | 0, _ => rfl
  | 1, _ => rfl
theorem getD_room (l r : List (List UInt8)) (i : Nat) (h : i < l.length) : (l ++ r).getD i [] = l.getD i [] := by
  rw [List.getD_eq_getElem?_getD, List.getElem?_append_left h, ← List.getD_eq_getElem?_getD]
theorem copy_room (l : List (List UInt8)) (N : Nat) (hN : N = l.length) : (List.range N).map (fun i => [Value.string (str (l.getD i []))]) ++ (List.replicate (N + 2) [Value.string ⟨#[]⟩]).drop N = srows (l ++ roomS 0) := by
  subst hN
  rw [srows, List.map_append]
  congr 1
  · apply List.ext_getElem?
    intro i
    by_cases hi : i < l.length
    · simp [hi]
    · simp [hi]
  · rw [List.drop_replicate, show l.length + 2 - l.length = 2 by omega]; rfl

set_option maxRecDepth 100000 in
set_option maxHeartbeats 4000000 in
theorem handedList_any (l : List (List UInt8)) (ad0 : Option Addr) (N cap0 : Nat) (w : World) (hL : Lies w ad0 N 1 (fun i => [.string (str (l.getD i []))])) (hN : N = l.length) (hb : N ≤ 1099511627776) :
    Calls Tryz.prog 4 #[.slice ad0 N cap0] w fun e w' => ∃ g ad, e = .returned (.slice ad N (N + 2)) ∧ ad = some ⟨g, 0, none⟩ ∧ w.heap.size ≤ g ∧ Own w' g 9 1 (srows (l ++ roomS 2)) ∧ Below w.heap.size w w' := by
  have HN : Hid (N = l.length) := hN
  have HC := copy_room l N hN
  have HCO : Hid ((List.range N).map (fun i => [Value.string (str (l.getD i []))]) ++ (List.replicate (N + 2) [Value.string ⟨#[]⟩]).drop N = srows (l ++ roomS 0)) := HC
  clear hN HC
  go_enter Tryz.func4, Tryz.ntmps4
  go_wp2_with (first
    | (at_make; refine wpList_make_ones (by rfl) _ _ 22 (by rfl) 9 (.string ⟨#[]⟩) 16 Tryz.underlying22 (by kernel_rfl) rfl (N + 2) _ ?_ (by rfl) (by rfl) ?_ ?_ ?_; (omega); (omega); (omega); intro g ad w1 he hg hl1 o1 hb1)
    | (refine wpList_copy_rows (by rfl) _ _ 22 22 (by rfl) 9 1 Tryz.underlying22 (by kernel_rfl) g ad he (N + 2) _ N _ _ (by rfl) (by rfl) (fun i => [.string (str (l.getD i []))]) _ o1 ?_ ?_ (hL.below hb1) ?_ ?_ ?_; (simp); (omega); (intro i _; rfl); (intro i _ v hv; simp at hv; subst hv; rfl); intro w2 o2 u2))
  rw [HCO.out] at o2
  have hb2 := u2.below hb1 hg
  clear o1 hb1 u2 hl1
  go_loopw [4] (fun v wr => ∃ i : Nat, i ≤ 2 ∧ v = .int .i64 i ∧ Own wr g 9 1 (srows (l ++ roomS i)) ∧ Below w.heap.size w wr) (fun u _ => 2 - (intOf u).toNat)
  case atStart => exact ⟨0, by omega, rfl, o2, hb2⟩
  case round =>
    obtain ⟨i, hi, rfl, o, hbw⟩ := hrel
    by_cases hlt : i < 2
    · have x1 := fun w' => Own.idx he (P := Tryz.prog) (t := 22) (m := 1) (N + 2) (N + 2) (by kernel_rfl) (by kernel_rfl) (k := N + i) (by omega) ((N : Int) + (i : Int)) (by omega) w'
      simp only [Nat.mul_one] at x1
      obtain ⟨c0, f0⟩ := srows_at o (N + i) (by rw [List.length_append, roomS_len i hi, ← HN.out]; omega)
      have HS : Hid (Own (wr.setCell ⟨g, N + i, none⟩ (.string (str foS))) g 9 1 (srows (l ++ roomS (i + 1)))) := by
        have := srows_set o (N + i) foS
        rw [show N + i = l.length + i by rw [HN.out], roomS_set l i hlt, ← HN.out] at this
        exact this
      have HB : Hid (Below w.heap.size w (wr.setCell ⟨g, N + i, none⟩ (.string (str foS)))) := ((Upd.refl g wr).setCell _ rfl _).below hbw hg
      clear o
      go_wp2_with fail
      go_roundw
      case rel => exact ⟨i + 1, by omega, by go_num, HS.out, HB.out⟩
      case measure => simp [intOf]; omega
    · obtain rfl : i = 2 := by omega
      have u1 : (0 : Int) ≤ (N : Int) := by omega
      have u2 : (N : Int) ≤ (N : Int) + 2 := by omega
      go_wp2_with fail
      go_ret
      exact ⟨g, ad, rfl, he.out, hg, o, hbw⟩

set_option maxRecDepth 100000 in
set_option maxHeartbeats 4000000 in
theorem stillList_any (l : List (List UInt8)) (ad0 : Option Addr) (N cap0 : Nat) (g : Nat) (ad : Option Addr) (w : World) (hL : Lies w ad0 N 1 (fun i => [.string (str (l.getD i []))])) (hN : N = l.length) (hb : N ≤ 1099511627776) (had : Hid (ad = some ⟨g, 0, none⟩)) (ho : Own w g 9 1 (srows (l ++ roomS 2))) :
    Calls Tryz.prog 8 #[.slice ad N (N + 2), .slice ad0 N cap0] w fun e w' => e = .returned (.bool true) ∧ Below w.heap.size w w' := by
  have HN : Hid (N = l.length) := hN
  have HL : Hid (Lies w ad0 N 1 (fun i => [.string (str (l.getD i []))])) := hL
  have HO : Hid (Own w g 9 1 (srows (l ++ roomS 2))) := ho
  have HL2 : Hid (Lies w ad N 1 (fun i => [.string (str (l.getD i []))])) := srows_lies ho had.out (by rw [List.length_append, hN]; omega) (fun i hi => getD_room _ _ _ (by omega))
  clear hL hN ho
  go_enter Tryz.func8, Tryz.ntmps8
  go_wp2_with fail
  refine (sameStrings_any N (fun i => l.getD i []) ad ad0 _ cap0 _ HL2.out HL.out (by omega)).mono ?_
  rintro e w1 ⟨rfl, hb1⟩
  have HO1 : Hid (Own w1 g 9 1 (srows (l ++ roomS 2))) := ⟨HO.out.even, by rw [hb1.block g (Array.getElem?_eq_some_iff.1 HO.out.block).1]; exact HO.out.block⟩
  have HB1 : Hid (Below w.heap.size w w1) := hb1
  clear hb1
  have u1 : (0 : Int) ≤ (N : Int) := by omega
  have u2 : (N : Int) + 2 ≤ (N : Int) + 2 := by omega
  go_wp2_with fail
  go_loopw [7] (fun v wr => ∃ i : Nat, i ≤ 2 ∧ v = .int .i64 i ∧ wr = w1) (fun u _ => 2 - (intOf u).toNat)
  case atStart => exact ⟨0, by omega, rfl, rfl⟩
  case round =>
    obtain ⟨i, hi, rfl, hw⟩ := hrel
    subst hw
    by_cases hlt : i < 2
    · have x1 := fun w' => Own.idx had (P := Tryz.prog) (t := 22) (m := 1) (N + 2) (N + 2) (by kernel_rfl) (by kernel_rfl) (k := N + i) (by omega) ((N : Int) + (i : Int)) (by omega) w'
      simp only [Nat.mul_one] at x1
      obtain ⟨c0, f0⟩ := srows_at HO1.out (N + i) (by rw [List.length_append, roomS_len 2 (by omega), ← HN.out]; omega)
      have e0 : (l ++ roomS 2).getD (N + i) [] = foS := by
        rw [List.getD_eq_getElem?_getD, HN.out, List.getElem?_append_right (by omega), Nat.add_sub_cancel_left]
        match i, hlt with
        | 0, _ => rfl
        | 1, _ => rfl
      rw [e0] at c0
      have q0 : ((str foS).toList == [102, 111, 114, 101, 105, 103, 110]) = true := by rw [str_toList]; rfl
      have q1 : ((str foS).toList != [102, 111, 114, 101, 105, 103, 110]) = false := by rw [str_toList]; rfl
      clear e0
      go_wp2_with fail
      go_roundw
      case rel => exact ⟨i + 1, by omega, by go_num, by first | rfl | trivial⟩
      case measure => simp [intOf]; omega
    · go_wp2_with fail
      go_ret
      exact ⟨rfl, HB1.out⟩

end Go.Proofs.YtdjpkgaicmklmaaGreat

/- parcellaw.Extends: called with any strings and any replica, up to very many bytes, it answers true. -/
namespace Go.Proofs.YtdjpkgaicmklmaaGreat
open Go.RowKit
attribute [local go_sem] str_beq

theorem repV_trio (A : Rep) (a1 a2 a3 : Option Addr) (k1 k2 k3 : Nat) : repV A.tri.rep a1 a2 a3 k1 k2 k3 = repV A a1 a2 a3 k1 k2 k3 := by
  simp [repV, Tri.rep, repOf, Rep.tri]
theorem Has.trio {w : World} {A : Rep} {a1 a2 a3 : Option Addr} (h : Has w A a1 a2 a3) : Has w A.tri.rep a1 a2 a3 := by
  have e1 : A.tri.rep.n1 = A.n1 := (tri_len A).1
  have e2 : A.tri.rep.n2 = A.n2 := (tri_len A).2.1
  have e3 : A.tri.rep.n3 = A.n3 := (tri_len A).2.2
  refine ⟨?_, ?_, ?_, by rw [e1]; exact h.b1, by rw [e2]; exact h.b2, by rw [e3]; exact h.b3, by rw [e1]; exact h.y1, by rw [e2]; exact h.y2, by rw [e3]; exact h.y3⟩
  · rw [e1]; rcases h.l1 with h | ⟨b, o, e, hb, hc⟩
    · exact Or.inl h
    · exact Or.inr ⟨b, o, e, hb, fun i hi j v hj hv => hc i hi j v hj (by simpa [Tri.rep, repOf, Rep.tri, List.getD, hi] using hv)⟩
  · rw [e2]; rcases h.l2 with h | ⟨b, o, e, hb, hc⟩
    · exact Or.inl h
    · exact Or.inr ⟨b, o, e, hb, fun i hi j v hj hv => hc i hi j v hj (by simpa [Tri.rep, repOf, Rep.tri, List.getD, hi] using hv)⟩
  · rw [e3]; rcases h.l3 with h | ⟨b, o, e, hb, hc⟩
    · exact Or.inl h
    · exact Or.inr ⟨b, o, e, hb, fun i hi j v hj hv => hc i hi j v hj (by simpa [Tri.rep, repOf, Rep.tri, List.getD, hi] using hv)⟩
theorem pextend_rep (l : List (List UInt8)) (A : Rep) (ad0 : Option Addr) (N cap0 : Nat) (b1 b2 b3 : Option Addr) (l1 l2 l3 : Nat) (w : World) (hL : Lies w ad0 N 1 (fun i => [.string (str (l.getD i []))])) (hN : N = l.length) (hl : ∀ v, v ∈ l → v.length ≤ 1048576) (hb : N ≤ 1048576) (hA : Has w A b1 b2 b3) :
    Calls Tryz.prog 6 #[.slice ad0 N cap0, repV A b1 b2 b3 l1 l2 l3] w fun e w' => e = .returned (XtV (extendRd l A.tri)) ∧ Below w.heap.size w w' := by
  have := pextend_any l A.tri ad0 N cap0 b1 b2 b3 l1 l2 l3 w hL hN hl hb hA.trio
  rw [repV_trio] at this
  exact this
theorem rextend_rep (l : List (List UInt8)) (A : Rep) (ad0 : Option Addr) (N cap0 : Nat) (b1 b2 b3 : Option Addr) (l1 l2 l3 : Nat) (w : World) (hL : Lies w ad0 N 1 (fun i => [.string (str (l.getD i []))])) (hN : N = l.length) (hl : ∀ v, v ∈ l → v.length ≤ 1048576) (hb : N ≤ 1048576) (hA : Has w A b1 b2 b3) :
    Calls Tryz.prog 7 #[.slice ad0 N cap0, repV A b1 b2 b3 l1 l2 l3] w fun e w' => e = .returned (XtV (extendRd l A.tri)) ∧ Below w.heap.size w w' := by
  have := rextend_any l A.tri ad0 N cap0 b1 b2 b3 l1 l2 l3 w hL hN hl hb hA.trio
  rw [repV_trio] at this
  exact this
/-- What lies there between the calls: the replica that came in, the one that is handed on, the strings that are handed on. -/
structure Xs (w : World) (A : Rep) (l : List (List UInt8)) (a1 a2 a3 p1 p2 p3 : Option Addr) (k1 k2 k3 g g1 g2 g3 gy : Nat) (X : World) : Prop where
  r : Bx X w.heap.size 27 (repC a1 A.n1 k1 a2 A.n2 k2 a3 A.n3 k3)
  x : Bx X gy 27 (repC p1 A.n1 (A.n1 + 2) p2 A.n2 (A.n2 + 2) p3 A.n3 (A.n3 + 2))
  h : Handed X A p1 p2 p3 g1 g2 g3
  o : Own X g 9 1 (srows (l ++ roomS 2))
  old : Below w.heap.size w X
theorem Xs.step {w : World} {A : Rep} {l : List (List UInt8)} {a1 a2 a3 p1 p2 p3 : Option Addr} {k1 k2 k3 g g1 g2 g3 gy : Nat} {X Y : World} (h : Xs w A l a1 a2 a3 p1 p2 p3 k1 k2 k3 g g1 g2 g3 gy X) (hb : Below X.heap.size X Y) : Xs w A l a1 a2 a3 p1 p2 p3 k1 k2 k3 g g1 g2 g3 gy Y :=
  ⟨h.r.below hb h.r.lt, h.x.below hb h.x.lt, h.h.below hb, ⟨h.o.even, by rw [hb.block g (Array.getElem?_eq_some_iff.1 h.o.block).1]; exact h.o.block⟩, h.old.trans (hb.mono h.old.size)⟩

set_option maxRecDepth 100000 in
set_option maxHeartbeats 4000000 in
theorem extends_any (l : List (List UInt8)) (A : Rep) (ad0 : Option Addr) (N cap0 : Nat) (a1 a2 a3 : Option Addr) (k1 k2 k3 : Nat) (w : World) (hL : Lies w ad0 N 1 (fun i => [.string (str (l.getD i []))])) (hN : N = l.length) (hl : ∀ v, v ∈ l → v.length ≤ 1048576) (hb : N ≤ 1048576) (hA : Has w A a1 a2 a3) :
    Calls Tryz.prog 3 #[.slice ad0 N cap0, repV A a1 a2 a3 k1 k2 k3] w fun e w' => e = .returned (.bool true) ∧ Below w.heap.size w w' := by
  obtain ⟨hX, hW, hB⟩ := one_box w 27 (repC a1 A.n1 k1 a2 A.n2 k2 a3 A.n3 k3).toArray
  have HX0 : Hid (Bx (w.alloc (.cells (repC a1 A.n1 k1 a2 A.n2 k2 a3 A.n3 k3).toArray 27)) w.heap.size 27 (repC a1 A.n1 k1 a2 A.n2 k2 a3 A.n3 k3) ∧ Below w.heap.size w (w.alloc (.cells (repC a1 A.n1 k1 a2 A.n2 k2 a3 A.n3 k3).toArray 27))) := ⟨hX, hB⟩
  have HLI : Hid (∀ X, Below w.heap.size w X → Lies X ad0 N 1 (fun i => [.string (str (l.getD i []))])) := fun X h => hL.below h
  have HN : Hid (N = l.length) := hN
  have HLE : Hid (∀ v, v ∈ l → v.length ≤ 1048576) := hl
  have HA : Hid (∀ X, Below w.heap.size w X → Has X A a1 a2 a3) := fun X h => hA.below h
  clear hX hW hB hL hN hl hA
  go_enter Tryz.func3, Tryz.ntmps3
  go_wp2_with fail
  refine (handedList_any l ad0 N cap0 _ (HLI.out _ HX0.out.2) HN.out (by omega)).mono ?_
  rintro e w1 ⟨g, ad, rfl, had, hg, ho, hb1⟩
  have HAD : Hid (ad = some ⟨g, 0, none⟩) := had
  have HOW : Hid (Own w1 g 9 1 (srows (l ++ roomS 2))) := ho
  have HX1 : Hid (Bx w1 w.heap.size 27 (repC a1 A.n1 k1 a2 A.n2 k2 a3 A.n3 k3) ∧ Below w.heap.size w w1) := ⟨HX0.out.1.below hb1 HX0.out.1.lt, HX0.out.2.trans (hb1.mono HX0.out.2.size)⟩
  have HL2 : Hid (Lies w1 ad N 1 (fun i => [.string (str (l.getD i []))])) := srows_lies ho had (by rw [List.length_append, HN.out]; omega) (fun i hi => getD_room _ _ _ (by rw [← HN.out]; exact hi))
  clear had ho hb1 hg HX0
  have x0 := HX1.out.1.cell 0; have x1 := HX1.out.1.cell 1; have x2 := HX1.out.1.cell 2
  dsimp only [List.getElem?_cons_zero, List.getElem?_cons_succ] at x0 x1 x2
  go_wp2_with fail
  clear x0 x1 x2
  refine (handed_any A a1 a2 a3 k1 k2 k3 _ (HA.out _ HX1.out.2)).mono ?_
  rintro e w2 ⟨p1, p2, p3, g1, g2, g3, rfl, hH, hg2, hb2⟩
  have hal : Below w2.heap.size w2 (w2.alloc (.cells (repC p1 A.n1 (A.n1 + 2) p2 A.n2 (A.n2 + 2) p3 A.n3 (A.n3 + 2)).toArray 27)) := (Below.refl _ _).alloc (Nat.le_refl _) _
  have hs2 := hb2.trans (hal.mono hb2.size)
  have HS : Hid (Xs w A l a1 a2 a3 p1 p2 p3 k1 k2 k3 g g1 g2 g3 w2.heap.size (w2.alloc (.cells (repC p1 A.n1 (A.n1 + 2) p2 A.n2 (A.n2 + 2) p3 A.n3 (A.n3 + 2)).toArray 27))) := ⟨HX1.out.1.below hs2 HX1.out.1.lt, Bx.new _ _ _, hH.below hal, ⟨HOW.out.even, by rw [hs2.block g (Array.getElem?_eq_some_iff.1 HOW.out.block).1]; exact HOW.out.block⟩, HX1.out.2.trans (hs2.mono HX1.out.2.size)⟩
  have HL3 : Hid (Lies (w2.alloc (.cells (repC p1 A.n1 (A.n1 + 2) p2 A.n2 (A.n2 + 2) p3 A.n3 (A.n3 + 2)).toArray 27)) ad N 1 (fun i => [.string (str (l.getD i []))])) := HL2.out.below hs2
  clear hH hg2 hb2 hal hs2 HX1 HOW HL2
  have x0 := HS.out.x.cell 0; have x1 := HS.out.x.cell 1; have x2 := HS.out.x.cell 2
  dsimp only [List.getElem?_cons_zero, List.getElem?_cons_succ] at x0 x1 x2
  go_wp2_with fail
  generalize w2.alloc (.cells (repC p1 A.n1 (A.n1 + 2) p2 A.n2 (A.n2 + 2) p3 A.n3 (A.n3 + 2)).toArray 27) = X2 at *
  generalize w2.heap.size = gy at *
  clear w2 x0 x1 x2
  refine (pextend_rep l A ad N (N + 2) p1 p2 p3 (A.n1 + 2) (A.n2 + 2) (A.n3 + 2) _ HL3.out HN.out HLE.out hb (HS.out.h.has (HA.out _ HS.out.old))).mono ?_
  rintro e w3 ⟨rfl, hb3⟩
  have HS3 : Hid (Xs w A l a1 a2 a3 p1 p2 p3 k1 k2 k3 g g1 g2 g3 gy w3) := HS.out.step hb3
  clear hb3 HS HL3
  obtain ⟨xb, hxb⟩ : ∃ x, x = (extendRd l A.tri).b := ⟨_, rfl⟩
  obtain ⟨xe, hxe⟩ : ∃ x, x = (extendRd l A.tri).err := ⟨_, rfl⟩
  obtain ⟨xp, hxp⟩ : ∃ x, x = (extendRd l A.tri).place := ⟨_, rfl⟩
  have HJ : Hid (XtV (extendRd l A.tri) = .tuple #[.string (str xb), .int .i64 xe, .int .i64 xp]) := by show _ = _; rw [hxb, hxe, hxp]
  clear hxb hxe hxp
  rw [HJ.out]
  have x0 := HS3.out.r.cell 0; have x1 := HS3.out.r.cell 1; have x2 := HS3.out.r.cell 2
  dsimp only [List.getElem?_cons_zero, List.getElem?_cons_succ] at x0 x1 x2
  go_wp2_with fail
  clear x0 x1 x2
  refine (rextend_rep l A ad0 N cap0 a1 a2 a3 k1 k2 k3 _ (HLI.out _ HS3.out.old) HN.out HLE.out hb (HA.out _ HS3.out.old)).mono ?_
  rintro e w4 ⟨rfl, hb4⟩
  have HS4 : Hid (Xs w A l a1 a2 a3 p1 p2 p3 k1 k2 k3 g g1 g2 g3 gy w4) := HS3.out.step hb4
  clear hb4 HS3
  rw [HJ.out]
  go_wp2_with fail
  refine (stillList_any l ad0 N cap0 g ad _ (HLI.out _ HS4.out.old) HN.out (by omega) HAD HS4.out.o).mono ?_
  rintro e w5 ⟨rfl, hb5⟩
  have HS5 : Hid (Xs w A l a1 a2 a3 p1 p2 p3 k1 k2 k3 g g1 g2 g3 gy w5) := HS4.out.step hb5
  clear hb5 HS4
  have x0 := HS5.out.r.cell 0; have x1 := HS5.out.r.cell 1; have x2 := HS5.out.r.cell 2
  have u0 := HS5.out.x.cell 0; have u1 := HS5.out.x.cell 1; have u2 := HS5.out.x.cell 2
  dsimp only [List.getElem?_cons_zero, List.getElem?_cons_succ] at x0 x1 x2 u0 u1 u2
  go_wp2_with fail
  clear x0 x1 x2 u0 u1 u2
  refine (still_any A a1 a2 a3 p1 p2 p3 g1 g2 g3 k1 k2 k3 _ (HA.out _ HS5.out.old) HS5.out.h).mono ?_
  rintro e w6 ⟨rfl, hb6⟩
  have HB6 : Hid (Below w.heap.size w w6) := (HS5.out.step hb6).old
  clear hb6 HS5
  have q0 : ((str xb).toList == (str xb).toList) = true := by simp
  go_wp2_with fail
  go_ret
  exact ⟨by simp, HB6.out⟩
end Go.Proofs.YtdjpkgaicmklmaaGreat

/- A replica that comes in, opened: its reading as data gives its rows. -/
namespace Go.Proofs.YtdjpkgaicmklmaaGreat
open Go.ChangeShapes Go.WideShapes Go.ChangeAt Go.RowKit Go.Joins Go.Deep

section
variable {H : Type} {enc : TypeId × Value → H} {w : World} {base : Nat} {spare : Nat → Bool} {held : Bool}

theorem Tryz.cellsInt : Tryz.prog.cellsOf 3 = 1 := by kernel_rfl
theorem Tryz.cellsBool : Tryz.prog.cellsOf 4 = 1 := by kernel_rfl
theorem Tryz.cellsString : Tryz.prog.cellsOf 9 = 1 := by kernel_rfl
theorem Tryz.cellsClock : Tryz.prog.cellsOf 37 = 2 := by kernel_rfl
theorem Tryz.cellsCard : Tryz.prog.cellsOf 39 = 5 := by kernel_rfl
theorem Tryz.cellsEdit : Tryz.prog.cellsOf 41 = 2 := by kernel_rfl

theorem list2 {α : Type} {l : List α} (h : l.length = 2) : ∃ a b, l = [a, b] := by
  match l, h with
  | [a, b], _ => exact ⟨a, b, rfl⟩
theorem list5 {α : Type} {l : List α} (h : l.length = 5) : ∃ a b c d e, l = [a, b, c, d, e] := by
  match l, h with
  | [a, b, c, d, e], _ => exact ⟨a, b, c, d, e, rfl⟩

theorem read_clock {n : Nat} {cs : List Value} {x : DataW H × List MemPlace} (h : DataW.trod enc Tryz.prog w base spare held n 37 cs = some x) : ∃ c : Ck, cs = c.cells := by
  obtain ⟨xs, k, _, _, hl, hlen, hf⟩ := DataW.trod_struct Tryz.underlying37 h
  rw [Tryz.cellsClock] at hl
  obtain ⟨c0, c1, rfl⟩ := list2 hl
  obtain ⟨y0, y1, rfl⟩ := list2 (show xs.length = 2 from hlen)
  have g0 := hf 0 _ rfl
  have g1 := hf 1 _ rfl
  simp [Tryz.cellsInt] at g0 g1
  obtain ⟨n0, e0, _⟩ := DataW.trod_int Tryz.underlying3 g0
  obtain ⟨n1, e1, _⟩ := DataW.trod_int Tryz.underlying3 g1
  simp at e0 e1
  subst e0 e1
  exact ⟨⟨n0, n1⟩, rfl⟩

theorem read_edit {n : Nat} {cs : List Value} {x : DataW H × List MemPlace} (h : DataW.trod enc Tryz.prog w base spare held n 41 cs = some x) : ∃ c : Ed, cs = c.cells := by
  obtain ⟨xs, k, _, _, hl, hlen, hf⟩ := DataW.trod_struct Tryz.underlying41 h
  rw [Tryz.cellsEdit] at hl
  obtain ⟨c0, c1, rfl⟩ := list2 hl
  obtain ⟨y0, y1, rfl⟩ := list2 (show xs.length = 2 from hlen)
  have g0 := hf 0 _ rfl
  have g1 := hf 1 _ rfl
  simp [Tryz.cellsInt, Tryz.cellsString] at g0 g1
  obtain ⟨n0, e0, _⟩ := DataW.trod_int Tryz.underlying3 g0
  obtain ⟨n1, e1, _⟩ := DataW.trod_string Tryz.underlying9 g1
  simp at e0 e1
  subst e0 e1
  exact ⟨⟨n0, n1⟩, rfl⟩

theorem read_card {n : Nat} {cs : List Value} {x : DataW H × List MemPlace} (h : DataW.trod enc Tryz.prog w base spare held n 39 cs = some x) : ∃ c : Cd, cs = c.cells := by
  obtain ⟨xs, k, _, _, hl, hlen, hf⟩ := DataW.trod_struct Tryz.underlying39 h
  rw [Tryz.cellsCard] at hl
  obtain ⟨c0, c1, c2, c3, c4, rfl⟩ := list5 hl
  obtain ⟨y0, y1, y2, y3, y4, rfl⟩ := list5 (show xs.length = 5 from hlen)
  have g0 := hf 0 _ rfl
  have g1 := hf 1 _ rfl
  have g2 := hf 2 _ rfl
  have g3 := hf 3 _ rfl
  have g4 := hf 4 _ rfl
  simp [Tryz.cellsInt, Tryz.cellsString, Tryz.cellsBool] at g0 g1 g2 g3 g4
  obtain ⟨n0, e0, _⟩ := DataW.trod_int Tryz.underlying3 g0
  obtain ⟨n1, e1, _⟩ := DataW.trod_int Tryz.underlying3 g1
  obtain ⟨n2, e2, _⟩ := DataW.trod_int Tryz.underlying3 g2
  obtain ⟨n3, e3, _⟩ := DataW.trod_bool Tryz.underlying4 g3
  obtain ⟨n4, e4, _⟩ := DataW.trod_string Tryz.underlying9 g4
  simp at e0 e1 e2 e3 e4
  subst e0 e1 e2 e3 e4
  exact ⟨⟨n0, n1, n2, n3, n4⟩, rfl⟩

theorem addr_plus (b off j : Nat) : (⟨b, off, none⟩ : Addr).add j = ⟨b, off + j, none⟩ := by
  unfold Addr.add
  by_cases h : j = 0 <;> simp [h]

/-- A slice of records that comes in. -/
theorem read_rows {α : Type} [Inhabited α] (cells : α → List Value) (m : Nat) {t e : TypeId} {fuel : Nat} {v : Value} {x : DataW H × List MemPlace} (ht : Tryz.prog.underlying t = some (.slice e)) (hc : Tryz.prog.cellsOf e = m) (h0 : 0 < m)
    (hr : ∀ (n : Nat) (cs : List Value) (y : DataW H × List MemPlace), DataW.trod enc Tryz.prog w 0 (fun _ => true) held n e cs = some y → ∃ c : α, cs = cells c)
    (h : DataW.trod enc Tryz.prog w 0 (fun _ => true) held fuel t [v] = some x) :
    ∃ (a : Option Addr) (n k : Nat) (f : Nat → α), v = .slice a n k ∧ Lies w a n m (fun i => cells (f i)) ∧ n ≤ k ∧ ((x.1 = .nil ∧ n = 0) ∨ ∃ el sp : List (DataW H), x.1 = .slice el sp ∧ el.length + sp.length = k) := by
  rcases open_slice ht h with ⟨hcs, hx⟩ | ⟨a, len, cap, mm, n, D, Pl, hcs, _, hl, hm, hmm, hx, hel⟩
  · simp at hcs
    exact ⟨none, 0, 0, fun _ => default, hcs, Or.inl rfl, Nat.le_refl _, Or.inl ⟨by rw [hx], rfl⟩⟩
  · simp at hcs
    simp at hmm
    subst hmm
    rw [hc] at hel
    have hall : ∀ i, i < mm → ∃ c : α, w.cells? 0 (a.add (i * m)) m = some (cells c) := fun i hi => by
      obtain ⟨cs', h1, h2⟩ := hel i hi
      obtain ⟨c, rfl⟩ := hr _ _ _ h2
      exact ⟨c, h1⟩
    obtain ⟨f, hf⟩ := choose_lt (α := α) (p := fun i c => w.cells? 0 (a.add (i * m)) m = some (cells c)) hall
    refine ⟨some a, len, mm, f, hcs, ?_, hl, Or.inr ⟨_, _, by rw [hx], by simp; omega⟩⟩
    by_cases hz : len = 0
    · exact Or.inl hz
    · obtain ⟨b, off, spot⟩ := a
      obtain ⟨_, hlen0, hc0⟩ := World.cells?_some (hf 0 (by omega))
      have hcell : w.cell? ((Addr.add ⟨b, off, spot⟩ (0 * m)).add 0) = (cells (f 0))[0]? := hc0 0 h0
      rw [List.getElem?_eq_getElem (by omega)] at hcell
      have hspot : spot = none := by simpa [Addr.add] using World.cell?_spot hcell
      subst hspot
      have hblk : b < w.heap.size := by
        simp only [Nat.zero_mul, addr_plus, Nat.add_zero] at hcell
        unfold World.cell? at hcell
        rcases Nat.lt_or_ge b w.heap.size with h | h
        · exact h
        · simp [Array.getElem?_eq_none h] at hcell
      refine Or.inr ⟨b, off, rfl, hblk, fun i hi j v hj hv => ?_⟩
      obtain ⟨_, _, hci⟩ := World.cells?_some (hf i (by omega))
      have := hci j hj
      rw [addr_plus, addr_plus] at this
      rw [this, hv]

theorem Tryz.bytesClock : Tryz.prog.bytesOf 37 = 16 := by kernel_rfl
theorem Tryz.bytesCard : Tryz.prog.bytesOf 39 = 48 := by kernel_rfl
theorem Tryz.bytesEdit : Tryz.prog.bytesOf 41 = 24 := by kernel_rfl

/-- The bytes of a slice that came in. -/
theorem weigh {t e : TypeId} {d : DataW H} {n k b : Nat} (ht : Tryz.prog.underlying t = some (.slice e)) (hb : Tryz.prog.bytesOf e = b) (hn : n ≤ k)
    (hx : (d = .nil ∧ n = 0) ∨ ∃ el sp : List (DataW H), d = .slice el sp ∧ el.length + sp.length = k) (hw : ∀ q, q ∈ d.weights Tryz.prog t → q ≤ reachBytes) : n * b ≤ reachBytes := by
  rcases hx with ⟨_, rfl⟩ | ⟨el, sp, rfl, rfl⟩
  · simp
  · have := hw ((el.length + sp.length) * Tryz.prog.bytesOf e) (by simp [DataW.weights, ht])
    rw [hb] at this
    exact Nat.le_trans (Nat.mul_le_mul_right _ hn) this

set_option maxRecDepth 100000 in
/-- A replica that comes in. -/
theorem open_rep {r : Reach} {b0 : Nat} {v : Value} {d : DataW H} {p : List MemPlace} (hv : Value.okWide Tryz.prog w r b0 27 v)
    (h : DataW.Trod enc Tryz.prog w 0 (fun _ => true) held 27 v d p) (hw : ∀ q, q ∈ d.weights Tryz.prog 27 → q ≤ reachBytes) :
    ∃ (R : Rep) (a1 a2 a3 : Option Addr) (k1 k2 k3 : Nat), v = repV R a1 a2 a3 k1 k2 k3 ∧ Has w R a1 a2 a3 := by
  obtain ⟨v0, v1, v2, y0, y1, y2, n, rfl, rfl, _, h0, h1, h2⟩ := open_agg3 Tryz.underlying27 (by kernel_rfl) (by kernel_rfl) hv h
  have : Inhabited Ck := ⟨⟨0, 0⟩⟩
  have : Inhabited Cd := ⟨⟨0, 0, 0, false, ⟨#[]⟩⟩⟩
  have : Inhabited Ed := ⟨⟨0, ⟨#[]⟩⟩⟩
  obtain ⟨a1, n1, k1, c, rfl, l1, m1, x1⟩ := read_rows Ck.cells 2 Tryz.underlying23 Tryz.cellsClock (by omega) (fun _ _ _ hh => read_clock hh) h0
  obtain ⟨a2, n2, k2, dd, rfl, l2, m2, x2⟩ := read_rows Cd.cells 5 Tryz.underlying24 Tryz.cellsCard (by omega) (fun _ _ _ hh => read_card hh) h1
  obtain ⟨a3, n3, k3, e, rfl, l3, m3, x3⟩ := read_rows Ed.cells 2 Tryz.underlying25 Tryz.cellsEdit (by omega) (fun _ _ _ hh => read_edit hh) h2
  have hw' : ∀ q, q ∈ DataW.weightsEach Tryz.prog [23, 24, 25] [y0.1, y1.1, y2.1] → q ≤ reachBytes := fun q hq => hw q (by
    simp only [DataW.weights, Tryz.underlying27]; exact hq)
  simp only [DataW.weightsEach, List.mem_append] at hw'
  have z1 := weigh Tryz.underlying23 Tryz.bytesClock m1 x1 (fun q hq => hw' q (Or.inl hq))
  have z2 := weigh Tryz.underlying24 Tryz.bytesCard m2 x2 (fun q hq => hw' q (Or.inr (Or.inl hq)))
  have z3 := weigh Tryz.underlying25 Tryz.bytesEdit m3 x3 (fun q hq => hw' q (Or.inr (Or.inr (Or.inl hq))))
  unfold reachBytes at z1 z2 z3
  exact ⟨⟨n1, n2, n3, c, dd, e⟩, a1, a2, a3, k1, k2, k3, rfl, l1, l2, l3, by show n1 ≤ _; omega, by show n2 ≤ _; omega, by show n3 ≤ _; omega, by show 16 * n1 ≤ _; omega, by show 48 * n2 ≤ _; omega, by show 24 * n3 ≤ _; omega⟩
end
end Go.Proofs.YtdjpkgaicmklmaaGreat

/- A list of strings that comes in, opened. -/
namespace Go.Proofs.YtdjpkgaicmklmaaGreat
open Go.WideShapes Go.ChangeAt Go.RowKit Go.Joins Go.Deep
open Go.ChangeShapes (open_strings)

section
variable {H : Type} {enc : TypeId × Value → H} {w : World} {base : Nat} {held : Bool}

theorem texts_lies {w : World} {ad : Addr} {n : Nat} {ss : List ByteArray} (hn : n ≤ ss.length) (hc : ∀ i, i < ss.length → w.cell? (ad.add i) = some (.string (ss.getD i ByteArray.empty))) :
    Lies w (some ad) n 1 (fun i => [.string (str ((((ss.take n).map fun s => s.data.toList)).getD i []))]) := by
  by_cases hz : n = 0
  · exact Or.inl hz
  · obtain ⟨b, off, spot⟩ := ad
    have hcell := hc 0 (by omega)
    have hspot : spot = none := by simpa [Addr.add] using World.cell?_spot hcell
    subst hspot
    have hblk : b < w.heap.size := by
      simp only [addr_plus, Nat.add_zero] at hcell
      unfold World.cell? at hcell
      rcases Nat.lt_or_ge b w.heap.size with h | h
      · exact h
      · simp [Array.getElem?_eq_none h] at hcell
    refine Or.inr ⟨b, off, rfl, hblk, fun i hi j v hj hv => ?_⟩
    obtain rfl : j = 0 := by omega
    have := hc i (by omega)
    rw [addr_plus] at this
    rw [show off + i * 1 + 0 = off + i by omega, this]
    have e : ((ss.take n).map fun s => s.data.toList).getD i [] = (ss.getD i ByteArray.empty).data.toList := by
      rw [List.getD_eq_getElem?_getD, List.getElem?_map, List.getElem?_take_of_lt hi, List.getD_eq_getElem?_getD]
      rw [List.getElem?_eq_getElem (by omega)]; rfl
    simp only [e, str_data] at hv
    simpa using hv

set_option maxRecDepth 100000 in
/-- A list of strings. -/
theorem open_texts {r : Reach} {b0 : Nat} {v : Value} {d : DataW H} {p : List MemPlace} (hok : Value.okWide Tryz.prog w r b0 22 v) (h : DataW.Trod enc Tryz.prog w 0 (fun _ => true) held 22 v d p) :
    ∃ (a : Option Addr) (n k : Nat) (l : List (List UInt8)), v = .slice a n k ∧ n = l.length ∧ Lies w a n 1 (fun i => [.string (str (l.getD i []))]) ∧ n ≤ k ∧ ((d = .nil ∧ l = []) ∨ ∃ sp : List (DataW H), d = .slice (l.map fun s => .lit (.string s)) sp ∧ l.length + sp.length = k) := by
  obtain ⟨x, y, z, rfl⟩ := okWide_slice Tryz.underlying22 hok
  obtain ⟨fuel, hh⟩ := h
  rcases open_strings Tryz.underlying22 Tryz.underlying9 Tryz.cellsString hh with ⟨hcs, hx⟩ | ⟨a, len, cap, ss, hcs, _, hl, hm, hz, hx, hcell, hws⟩
  · simp [Value.cells] at hcs
    obtain ⟨rfl, rfl, rfl⟩ := hcs
    exact ⟨none, 0, 0, [], rfl, rfl, Or.inl rfl, Nat.le_refl _, Or.inl ⟨by simpa using congrArg Prod.fst hx, rfl⟩⟩
  · simp [Value.cells] at hcs
    obtain ⟨rfl, rfl, rfl⟩ := hcs
    simp at hz
    refine ⟨some a, y, z, (ss.take y).map (fun s => s.data.toList), rfl, by simp; omega, texts_lies (by omega) hcell, hl, Or.inr ⟨Go.ChangeShapes.strs (ss.drop y), ?_, ?_⟩⟩
    · have := congrArg Prod.fst hx
      simp only at this
      rw [this, List.map_map]
      rfl
    · simp [Go.ChangeShapes.strs]; omega
end

theorem bulk_texts {H : Type} : ∀ l : List (List UInt8), l.length ≤ Rows.uptoBulkAll (H := H) (l.map fun s => .lit (.string s)) ∧ ∀ s ∈ l, s.length ≤ Rows.uptoBulkAll (H := H) (l.map fun s => .lit (.string s))
  | [] => ⟨by simp, by intro s h; cases h⟩
  | a :: l => by
    obtain ⟨h1, h2⟩ := bulk_texts (H := H) l
    simp only [List.map_cons, Rows.uptoBulkAll, Rows.uptoBulk, List.length_cons]
    refine ⟨by omega, fun s hs => ?_⟩
    rcases List.mem_cons.1 hs with rfl | hs
    · omega
    · have := h2 s hs; omega
/-- What the bound gives of a list of strings. -/
theorem bulk_list {H : Type} {d : DataW H} {l : List (List UInt8)} {k : Nat} (h : (d = .nil ∧ l = []) ∨ ∃ sp : List (DataW H), d = .slice (l.map fun s => .lit (.string s)) sp ∧ l.length + sp.length = k) (hb : Rows.uptoBulk d ≤ 1048576) : l.length ≤ 1048576 ∧ ∀ s ∈ l, s.length ≤ 1048576 := by
  rcases h with ⟨_, rfl⟩ | ⟨sp, rfl, _⟩
  · exact ⟨by simp, by intro s h; cases h⟩
  · obtain ⟨h1, h2⟩ := bulk_texts (H := H) l
    simp only [Rows.uptoBulk] at hb
    exact ⟨by omega, fun s hs => by have := h2 s hs; omega⟩
end Go.Proofs.YtdjpkgaicmklmaaGreat

/- A replica that comes in, opened where what comes in is of small bulk. -/
namespace Go.Proofs.YtdjpkgaicmklmaaGreat
open Go.ChangeShapes Go.WideShapes Go.ChangeAt Go.RowKit Go.Joins Go.Deep

section
variable {H : Type} {enc : TypeId × Value → H} {w : World} {held : Bool}

theorem bulk_pos (d : DataW H) : 1 ≤ Rows.uptoBulk d := by
  cases d with
  | lit x => cases x <;> simp [Rows.uptoBulk]
  | nil => simp [Rows.uptoBulk]
  | ptr d => simp [Rows.uptoBulk]
  | slice el sp => simp [Rows.uptoBulk]
  | agg p => simp [Rows.uptoBulk]
  | iface t d => simp [Rows.uptoBulk]
  | map m => simp [Rows.uptoBulk]
  | held h => simp [Rows.uptoBulk]
theorem bulk_len : ∀ l : List (DataW H), l.length ≤ Rows.uptoBulkAll l
  | [] => by simp
  | d :: r => by
    have := bulk_len r
    have := bulk_pos d
    simp only [List.length_cons, Rows.uptoBulkAll]; omega
theorem weighB {d : DataW H} {n k : Nat} (hn : n ≤ k) (hx : (d = .nil ∧ n = 0) ∨ ∃ el sp : List (DataW H), d = .slice el sp ∧ el.length + sp.length = k) (hw : Rows.uptoBulk d ≤ 1048576) : n ≤ 1048576 := by
  rcases hx with ⟨_, rfl⟩ | ⟨el, sp, rfl, rfl⟩
  · omega
  · have := bulk_len el
    have := bulk_len sp
    simp only [Rows.uptoBulk] at hw; omega

set_option maxRecDepth 100000 in
/-- A replica that comes in. -/
theorem open_repB {r : Reach} {b0 : Nat} {v : Value} {d : DataW H} {p : List MemPlace} (hv : Value.okWide Tryz.prog w r b0 27 v)
    (h : DataW.Trod enc Tryz.prog w 0 (fun _ => true) held 27 v d p) (hw : Rows.uptoBulk d ≤ 1048576) :
    ∃ (R : Rep) (a1 a2 a3 : Option Addr) (k1 k2 k3 : Nat), v = repV R a1 a2 a3 k1 k2 k3 ∧ Has w R a1 a2 a3 := by
  obtain ⟨v0, v1, v2, y0, y1, y2, n, rfl, rfl, _, h0, h1, h2⟩ := open_agg3 Tryz.underlying27 (by kernel_rfl) (by kernel_rfl) hv h
  have : Inhabited Ck := ⟨⟨0, 0⟩⟩
  have : Inhabited Cd := ⟨⟨0, 0, 0, false, ⟨#[]⟩⟩⟩
  have : Inhabited Ed := ⟨⟨0, ⟨#[]⟩⟩⟩
  obtain ⟨a1, n1, k1, c, rfl, l1, m1, x1⟩ := read_rows Ck.cells 2 Tryz.underlying23 Tryz.cellsClock (by omega) (fun _ _ _ hh => read_clock hh) h0
  obtain ⟨a2, n2, k2, dd, rfl, l2, m2, x2⟩ := read_rows Cd.cells 5 Tryz.underlying24 Tryz.cellsCard (by omega) (fun _ _ _ hh => read_card hh) h1
  obtain ⟨a3, n3, k3, e, rfl, l3, m3, x3⟩ := read_rows Ed.cells 2 Tryz.underlying25 Tryz.cellsEdit (by omega) (fun _ _ _ hh => read_edit hh) h2
  simp only [Rows.uptoBulk, Rows.uptoBulkAll] at hw
  have z1 := weighB m1 x1 (by omega)
  have z2 := weighB m2 x2 (by omega)
  have z3 := weighB m3 x3 (by omega)
  exact ⟨⟨n1, n2, n3, c, dd, e⟩, a1, a2, a3, k1, k2, k3, rfl, l1, l2, l3, by show n1 ≤ _; omega, by show n2 ≤ _; omega, by show n3 ≤ _; omega, by show 16 * n1 ≤ _; omega, by show 48 * n2 ≤ _; omega, by show 24 * n3 ≤ _; omega⟩
end
end Go.Proofs.YtdjpkgaicmklmaaGreat

