/- Texts of the proof, one behind the other; what each holds is said at its head. -/
import Derived.Test.YtdjpkgaicmklmaaPartJoinsupto5
import Derived.BigQuiet
import Derived.Deep.QuietTactic
import Derived.Test.YtdjpkgaicmklmaaPartJoinsupto2
import Derived.Test.YtdjpkgaicmklmaaPartJoinsupto3
import Derived.Test.YtdjpkgaicmklmaaPartJoinsupto0
import Derived.ProofKit
import Derived.SizedLaws
import Derived.Lib.SmallJoins
import Derived.Deep.Slices
import Derived.SliceStrings
import Derived.Carry
/- sameFound, and what own.kept asks: walked. -/
namespace Go.Proofs.Ytdjpkgaicmklmaa
open Go.RowKit

set_option maxRecDepth 100000 in
set_option maxHeartbeats 4000000 in
theorem sameFound_any (N : Nat) (F : Nat → Fd) (a b : Option Addr) (ca cb : Nat) (w : World) (hA : Lies w a N 9 (fun i => (F i).cells)) (hB : Lies w b N 9 (fun i => (F i).cells)) (hN : N ≤ 9223372036854775807) :
    Calls Try.prog 50 #[.slice a N ca, .slice b N cb] w fun e w' => e = .returned (.bool true) ∧ Below w.heap.size w w' := by
  go_enter Try.func50, Try.ntmps50
  go_wp2
  go_loopw [5] (fun u wr => ∃ j : Nat, j ≤ N ∧ u = .int .i64 j ∧ Below w.heap.size w wr) (fun u _ => N - (intOf u).toNat)
  case atStart => exact ⟨0, Nat.zero_le _, rfl, Below.refl _ _⟩
  case round =>
    obtain ⟨j, hj, rfl, hbr⟩ := hrel
    by_cases hlt : j < N
    · obtain ⟨b, o, hbl, hix, c0, c1, c2, c3, c4, c5, c6, c7, c8⟩ := (hA.below hbr).found ca hlt
      obtain ⟨b', o', hbl', hix', d0, d1, d2, d3, d4, d5, d6, d7, d8⟩ := (hB.below hbr).found cb hlt
      go_wp2
      go_quiet (fail)
      go_wp2
      go_roundw
      case rel => exact ⟨j + 1, by omega, by go_num, below_drewN hbr _⟩
      case measure => simp [intOf]; omega
    · go_wp2
      go_ret
      exact ⟨rfl, hbr⟩

theorem books_lies {Sh : List Value → Prop} {w : World} {B e eb m : Nat} {ad : Option Addr} {cap : Nat} {L : List Bk} (h : Books Sh w B e eb m ad cap L) : Lies w ad L.length (m + 1) (fun i => (L.getD i ⟨none, 0, 0, []⟩).cells) := by
  refine Vec.lies (rows := L.map Bk.cells) h.list ?_ (by simp) _ ?_
  · intro r hr; obtain ⟨x, hx, rfl⟩ := List.mem_map.1 hr; simp [(h.each x hx).len]
  · intro i hi; simp [List.getD, hi]
theorem rep_lies {w : World} {B e m : Nat} {ad : Option Addr} {n cap : Nat} {mk : List Value} (h : Vec w B e m ad n cap (rep n mk)) (hm : mk.length = m) : Lies w ad n m (fun _ => mk) := by
  refine Vec.lies (rows := List.replicate n mk) h ?_ (by simp) _ ?_
  · intro r hr; rw [(List.mem_replicate.1 hr).2]; exact hm
  · intro i hi; simp [List.getD, hi]

set_option maxRecDepth 100000 in
set_option maxHeartbeats 4000000 in
theorem rkept_nil (w : World) (go : Nat) (n : Int) (v4 v5 : Value) (hO : Bx w go 41 [.int .i64 n, .slice none 0 0, .slice none 0 0, .slice none 0 0, v4, v5]) :
    Calls Try.prog 94 #[.pointer (some ⟨go, 0, none⟩)] w fun e w' => e = .returned (.bool true) ∧ w' = w := by
  have c1 := hO.cell 1
  have c2 := hO.cell 2
  have c3 := hO.cell 3
  dsimp only [List.getElem?_cons_zero, List.getElem?_cons_succ] at c1 c2 c3
  go_enter Try.func94, Try.ntmps94
  go_wp2_with fail
  go_loopw [3, 4] (fun u _ wr => u = .int .i64 0 ∧ wr = w) (fun _ _ _ => 0)
  case atStart => exact ⟨rfl, rfl⟩
  case round =>
    obtain ⟨rfl, hw⟩ := hrel
    subst hw
    go_wp2_with fail
    go_loopw [5, 6] (fun u _ wr2 => u = .int .i64 0 ∧ wr2 = wr) (fun _ _ _ => 0)
    case atStart => exact ⟨rfl, rfl⟩
    case round =>
      obtain ⟨rfl, hw⟩ := hrel
      subst hw
      go_wp2_with fail
      go_loopw [7, 8] (fun u _ wr2 => u = .int .i64 0 ∧ wr2 = wr) (fun _ _ _ => 0)
      case atStart => exact ⟨rfl, rfl⟩
      case round =>
        obtain ⟨rfl, hw⟩ := hrel
        subst hw
        go_wp2_with fail
        go_ret
        exact ⟨rfl, by first | rfl | trivial⟩
end Go.Proofs.Ytdjpkgaicmklmaa

/- Splits: called with any bytes, up to very many, and any size, it answers true. -/
namespace Go.Proofs.Ytdjpkgaicmklmaa
open Go.RowKit
attribute [local go_sem] str_beq

set_option maxRecDepth 100000 in
set_option maxHeartbeats 4000000 in
theorem sameStrings_any (N : Nat) (F : Nat → List UInt8) (a b : Option Addr) (ca cb : Nat) (w : World) (hA : Lies w a N 1 (fun i => [.string (str (F i))])) (hB : Lies w b N 1 (fun i => [.string (str (F i))])) (hN : N ≤ 9223372036854775807) :
    Calls Try.prog 54 #[.slice a N ca, .slice b N cb] w fun e w' => e = .returned (.bool true) ∧ Below w.heap.size w w' := by
  go_enter Try.func54, Try.ntmps54
  go_wp2
  go_loopw [5] (fun u wr => ∃ j : Nat, j ≤ N ∧ u = .int .i64 j ∧ Below w.heap.size w wr) (fun u _ => N - (intOf u).toNat)
  case atStart => exact ⟨0, Nat.zero_le _, rfl, Below.refl _ _⟩
  case round =>
    obtain ⟨j, hj, rfl, hbr⟩ := hrel
    by_cases hlt : j < N
    · obtain ⟨b, o, hbl, hix, hc⟩ := (hA.below hbr).at ca (P := Try.prog) (t := 46) (by kernel_rfl) (by kernel_rfl) hlt
      obtain ⟨b', o', hbl', hix', hd⟩ := (hB.below hbr).at cb (P := Try.prog) (t := 46) (by kernel_rfl) (by kernel_rfl) hlt
      have c0 : wr.cell? ⟨b, o, none⟩ = some (.string (str (F j))) := hc 0 _ (by omega) rfl
      have d0 : wr.cell? ⟨b', o', none⟩ = some (.string (str (F j))) := hd 0 _ (by omega) rfl
      clear hc hd
      go_wp2
      go_quiet (fail)
      go_wp2
      go_roundw
      case rel => exact ⟨j + 1, by omega, by go_num, below_drewN hbr _⟩
      case measure => simp [intOf]; omega
    · go_wp2
      go_ret
      exact ⟨rfl, hbr⟩

set_option maxRecDepth 100000 in
set_option maxHeartbeats 4000000 in
theorem keptT_any (w : World) (B go : Nat) (n : Int) (v1 v2 v3 : Value) (a4 : Option Addr) (c4 : Nat) (L : List Bk) (hO : Bx w go 41 [.int .i64 n, v1, v2, v3, .slice none 0 0, .slice a4 L.length c4]) (hK : Books ShSt w B 9 116 1 a4 c4 L) (hL : L.length ≤ 1004)
    (hR : Hid (∀ w', Below w.heap.size w w' → Calls Try.prog 94 #[.pointer (some ⟨go, 0, none⟩)] w' fun e w'' => e = .returned (.bool true) ∧ Below w'.heap.size w' w'')) :
    Calls Try.prog 46 #[.pointer (some ⟨go, 0, none⟩)] w fun e w' => e = .returned (.bool true) ∧ Below w.heap.size w w' := by
  have c5 := hO.cell 4
  dsimp only [List.getElem?_cons_zero, List.getElem?_cons_succ] at c5
  go_enter Try.func46, Try.ntmps46
  go_wp2_with fail
  go_loopw [3, 4] (fun u _ wr2 => u = .int .i64 0 ∧ wr2 = w) (fun _ _ _ => 0)
  case atStart => exact ⟨rfl, rfl⟩
  case round =>
    obtain ⟨rfl, hw⟩ := hrel
    subst hw
    go_wp2_with fail
    go_loopw [5, 6] (fun u _ w2 => ∃ i : Nat, i ≤ L.length ∧ u = .int .i64 i ∧ Below wr.heap.size wr w2) (fun u _ _ => L.length - (intOf u).toNat)
    case atStart => exact ⟨0, Nat.zero_le _, rfl, Below.refl _ _⟩
    case round =>
      obtain ⟨i, hi, rfl, hbr⟩ := hrel
      have hOr := hO.below hbr hO.lt
      have hKr := hK.keep hbr
      have cf := hOr.cell 5
      dsimp only [List.getElem?_cons_zero, List.getElem?_cons_succ] at cf
      by_cases hlt : i < L.length
      · have hx := hKr.each L[i] (List.getElem_mem hlt)
        obtain ⟨b, o, hbl, hix, hc⟩ := (books_lies hKr).at c4 (P := Try.prog) (t := 39) (by kernel_rfl) (by kernel_rfl) hlt
        obtain ⟨f, hf⟩ := hx.shape
        rw [show L.getD i ⟨none, 0, 0, []⟩ = L[i] by simp [List.getD, hlt]] at hc
        have s0 : wr.cell? ⟨b, o, none⟩ = some (.slice (L[i]).ad (L[i]).n (L[i]).cap) := hc 0 _ (by omega) rfl
        have hq : Lies wr (L[i]).ad (L[i]).n 1 (fun _ => [.string (str f)]) := rep_lies (by have := hx.vec; rw [hf] at this; exact this) rfl
        have few : (L[i]).n ≤ 1099511627780 := hx.few
        have s1 : wr.cell? ⟨b, o + 1, none⟩ = some (.string (str f)) := hc 1 _ (by omega) (by rw [Bk.cells, List.getElem?_cons_succ, hf]; rfl)
        clear hx hc hf
        generalize L[i] = X at *
        generalize hwr : wr = w5 at *
        clear hwr
        go_wp2_with fail
        go_loopw [6] (fun u wr2 => ∃ k : Nat, k ≤ X.n ∧ u = .int .i64 k ∧ Below w5.heap.size w5 wr2) (fun u _ => X.n - (intOf u).toNat)
        case atStart => exact ⟨0, Nat.zero_le _, rfl, Below.refl _ _⟩
        case round =>
          obtain ⟨k, hk, rfl, hbr2⟩ := hrel
          have cf2 := (hOr.below hbr2 hOr.lt).cell 5
          dsimp only [List.getElem?_cons_zero, List.getElem?_cons_succ] at cf2
          have s2 : wr.cell? ⟨b, o, none⟩ = some (.slice X.ad X.n X.cap) := (hbr2.cell (p := ⟨b, o, none⟩) hbl).trans s0
          have s3 : wr.cell? ⟨b, o + 1, none⟩ = some (.string (str f)) := (hbr2.cell (p := ⟨b, o + 1, none⟩) hbl).trans s1
          by_cases hlt2 : k < X.n
          · obtain ⟨b', o', hbl', hix', hd⟩ := (hq.below hbr2).at X.cap (P := Try.prog) (t := 46) (by kernel_rfl) (by kernel_rfl) hlt2
            have d0 : wr.cell? ⟨b', o', none⟩ = some (.string (str f)) := hd 0 _ (by omega) rfl
            clear hd
            go_wp2
            go_quiet (fail)
            go_wp2
            go_roundw
            case rel => exact ⟨k + 1, by omega, by go_num, below_drewN hbr2 _⟩
            case measure => simp [intOf]; omega
          · go_wp2
            go_roundw
            case rel => exact ⟨i + 1, by omega, by go_num, hbr.trans (hbr2.mono hbr.size)⟩
            case measure => simp [intOf]; omega
      · generalize hwr : wr = w5 at *
        clear hwr
        go_wp2_with fail
        refine (hR.out _ hbr).mono ?_
        rintro e w6 ⟨rfl, hb6⟩
        go_wp2_with fail
        go_ret
        exact ⟨rfl, hbr.trans (hb6.mono hbr.size)⟩

/-- The owner's variable and his books of strings. -/
structure OwnT (w : World) (B go : Nat) (n : Int) (a4 : Option Addr) (c4 : Nat) (L : List Bk) : Prop where
  o : Bx w go 41 [.int .i64 n, .slice none 0 0, .slice none 0 0, .slice none 0 0, .slice none 0 0, .slice a4 L.length c4]
  b : Books ShSt w B 9 116 1 a4 c4 L
theorem OwnT.keep {w w' : World} {B go : Nat} {n : Int} {a4 : Option Addr} {c4 : Nat} {L : List Bk} (h : OwnT w B go n a4 c4 L) (hb : Below w.heap.size w w') : OwnT w' B go n a4 c4 L := ⟨h.o.below hb h.o.lt, h.b.keep hb⟩
theorem OwnT.old {w : World} {B go : Nat} {n : Int} {a4 : Option Addr} {c4 : Nat} {L : List Bk} (h : OwnT w B go n a4 c4 L) : ∀ x, x ∈ L → ∀ b, x.ad = some b → b.block < w.heap.size := by
  intro x hx b hb
  obtain ⟨_, cur, hc⟩ := (h.b.each x hx).vec.typed b.block (by rw [hb]; rfl)
  exact (Array.getElem?_eq_some_iff.1 hc).1

theorem splitL_length (b : List UInt8) (size : Int) : (splitL b size).length ≤ 256 := by
  unfold splitL
  split
  · rename_i h
    rw [vols_len]
    exact Nat.le_of_lt (cnt_small _ _ (by have := h.1; omega) h.2.2)
  · simp

set_option maxRecDepth 100000 in
set_option maxHeartbeats 4000000 in
theorem split_any (s : List UInt8) (size : Int) (w : World) (B go : Nat) (n : Int) (a4 : Option Addr) (c4 : Nat) (L : List Bk) (hO : OwnT w B go n a4 c4 L) (hs : s.length ≤ 9223372036854775807) (hL : L.length ≤ 900) (hB : B ≤ go) (hn0 : 0 ≤ n) (hn1 : n ≤ 900) (hBw : B ≤ w.heap.size) :
    Calls Try.prog 23 #[.string (str s), .int .i64 size, .pointer (some ⟨go, 0, none⟩)] w fun e w' => (e = .returned (.bool true) ∧ ∃ a5 c5 L5, L5.length = L.length + 4 ∧ OwnT w' B go (n + 1) a5 c5 L5) ∧ Below B w w' := by
  have HO : Hid (OwnT w B go n a4 c4 L) := hO
  have HS : Hid (s.length ≤ 9223372036854775807) := hs
  clear hO hs
  go_enter Try.func23, Try.ntmps23
  go_wp2_with fail
  refine (psplit_any s size _ HS.out).mono ?_
  rintro e w1 ⟨ad, cap, N, rfl, h1⟩
  have H1 : Hid (N = (splitL s size).length ∧ Vec w1 w.heap.size 9 1 ad N cap (strs (splitL s size)) ∧ Below w.heap.size w w1) := h1
  clear h1
  go_wp2_with fail
  refine (rsplit_any s size _ HS.out).mono ?_
  rintro e w2 ⟨ad2, cap2, N2, rfl, h2⟩
  obtain rfl : N = N2 := by rw [H1.out.1, h2.1]
  have H2 : Hid (N = (splitL s size).length ∧ Vec w2 w1.heap.size 9 1 ad2 N cap2 (strs (splitL s size)) ∧ Below w1.heap.size w1 w2) := h2
  clear h2
  have hNb : N ≤ 256 := by have := splitL_length s size; have := H1.out.1; omega
  generalize splitE s size = E at *
  go_wp2_with fail
  refine (sameStrings_any N (fun i => (splitL s size).getD i []) ad ad2 cap cap2 _ (strs_lies (H1.out.2.1.keep H2.out.2.2) H1.out.1) (strs_lies H2.out.2.1 H1.out.1) (by omega)).mono ?_
  rintro e w3 ⟨rfl, hb3⟩
  have H3 : Hid (Below w2.heap.size w2 w3) := hb3
  clear hb3
  have H13 : Hid (Below w1.heap.size w1 w3) := H2.out.2.2.trans (H3.out.mono H2.out.2.2.size)
  have HW : Hid (Below w.heap.size w w3) := H1.out.2.2.trans (H13.out.mono H1.out.2.2.size)
  go_wp2_with fail
  refine (strings_any _ B w.heap.size go n _ _ _ _ ad N cap _ a4 c4 L (HO.out.keep HW.out).o (HO.out.keep HW.out).b HO.out.old (H1.out.2.1.keep H13.out) (by omega) (by omega) hB hBw hn0 (by omega) (Nat.le_trans hBw HW.out.size) HW.out.size).mono ?_
  rintro e w4 ⟨⟨v, rfl⟩, ⟨a5, c5, L5, hL5, h5⟩, hb4, -⟩
  have H5 : Hid (Bx w4 go 41 [.int .i64 (n + 1), .slice none 0 0, .slice none 0 0, .slice none 0 0, .slice none 0 0, .slice a5 L5.length c5] ∧ Books ShSt w4 B 9 116 1 a5 c5 L5) := h5
  have HL5 : Hid (L5.length = L.length + 4) := hL5
  have HB5 : Hid (Below B w w4) := (HW.out.mono hBw).trans hb4
  clear h5 hL5 hb4
  go_wp2_with fail
  refine (keptT_any _ B go (n + 1) _ _ _ a5 c5 L5 H5.out.1 H5.out.2 (by have := HL5.out; omega) (fun w' hw' => (rkept_nil w' go (n + 1) _ _ (H5.out.1.below hw' H5.out.1.lt)).mono fun e w'' h => ⟨h.1, by rw [h.2]; exact Below.refl _ _⟩)).mono ?_
  rintro e w6 ⟨rfl, hb6⟩
  have H6 : Hid (Below w4.heap.size w4 w6) := hb6
  clear hb6
  go_wp2_with fail
  go_ret
  exact ⟨⟨rfl, a5, c5, L5, HL5.out, ⟨H5.out.1.below H6.out H5.out.1.lt, H5.out.2.keep H6.out⟩⟩, HB5.out.trans (H6.out.mono (Nat.le_trans hBw HB5.out.size))⟩

set_option maxRecDepth 100000 in
set_option maxHeartbeats 4000000 in
theorem splits_any (s : List UInt8) (size : Int) (w : World) (hs : s.length ≤ 9223372036854775807) :
    Calls Try.prog 8 #[.string (str s), .int .i64 size] w fun e w' => e = .returned (.bool true) ∧ Below w.heap.size w w' := by
  obtain ⟨hO, hW, hB⟩ := one_box w 41 #[.int .i64 0, .slice none 0 0, .slice none 0 0, .slice none 0 0, .slice none 0 0, .slice none 0 0]
  have h0 : OwnT (w.alloc (.cells #[.int .i64 0, .slice none 0 0, .slice none 0 0, .slice none 0 0, .slice none 0 0, .slice none 0 0] 41)) w.heap.size w.heap.size 0 none 0 [] := ⟨hO, Books.nil _ _ _ _ _⟩
  have H0 : Hid (OwnT (w.alloc (.cells #[.int .i64 0, .slice none 0 0, .slice none 0 0, .slice none 0 0, .slice none 0 0, .slice none 0 0] 41)) w.heap.size w.heap.size 0 none 0 []) := h0
  clear h0 hO
  go_enter Try.func8, Try.ntmps8
  go_wp2_with fail
  refine (split_any s size _ w.heap.size w.heap.size 0 none 0 [] H0.out hs (by simp) (Nat.le_refl _) (by omega) (by omega) hB.size).mono ?_
  rintro e w1 ⟨⟨rfl, a5, c5, L5, hL5, hO5⟩, hb1⟩
  have hb2 := hB.trans hb1
  have hL6 : L5.length ≤ 900 := by simp at hL5; omega
  clear hL5
  go_wp2_with fail
  refine (split_any s size _ w.heap.size w.heap.size (0 + 1) a5 c5 L5 hO5 hs hL6 (Nat.le_refl _) (by omega) (by omega) hb2.size).mono ?_
  rintro e w2 ⟨⟨rfl, -⟩, hb3⟩
  go_wp2_with fail
  go_ret
  exact ⟨rfl, hb2.trans hb3⟩
end Go.Proofs.Ytdjpkgaicmklmaa

/- Lists of strings that are handed in with spare room, and looked at behind the call: walked; Joins. -/
namespace Go.Proofs.Ytdjpkgaicmklmaa
open Go.RowKit
attribute [local go_sem] str_beq

/-- The mark of the spare room. -/
def foS : List UInt8 := [102, 111, 114, 101, 105, 103, 110]
def roomS (i : Nat) : List (List UInt8) := List.replicate i foS ++ List.replicate (2 - i) []
theorem roomS_len (i : Nat) (h : i ≤ 2) : (roomS i).length = 2 := by simp [roomS]; omega
theorem roomS_set (l : List (List UInt8)) (i : Nat) (h : i < 2) : (l ++ roomS i).set (l.length + i) foS = l ++ roomS (i + 1) := by
  rw [List.set_append_right _ _ (by omega), Nat.add_sub_cancel_left]
  congr 1
  match i, h with
  | 0, _ => rfl
  | 1, _ => rfl
theorem getD_room (l r : List (List UInt8)) (i : Nat) (h : i < l.length) : (l ++ r).getD i [] = l.getD i [] := by
  rw [List.getD_eq_getElem?_getD, List.getElem?_append_left h, ← List.getD_eq_getElem?_getD]
theorem copy_room (l : List (List UInt8)) (N : Nat) (hN : N = l.length) : (List.range N).map (fun i => [Value.string (str (l.getD i []))]) ++ (List.replicate (N + 2) [Value.string ⟨#[]⟩]).drop N = srows (l ++ roomS 0) := by
  subst hN
  rw [srows, List.map_append]
  congr 1
  · apply List.ext_getElem?
    intro i
    by_cases hi : i < l.length
    · simp [hi]
    · simp [hi]
  · rw [List.drop_replicate, show l.length + 2 - l.length = 2 by omega]; rfl

set_option maxRecDepth 100000 in
set_option maxHeartbeats 4000000 in
theorem handedList_any (l : List (List UInt8)) (ad0 : Option Addr) (N cap0 : Nat) (w : World) (hL : Lies w ad0 N 1 (fun i => [.string (str (l.getD i []))])) (hN : N = l.length) (hb : N ≤ 1099511627776) :
    Calls Try.prog 24 #[.slice ad0 N cap0] w fun e w' => ∃ g ad, e = .returned (.slice ad N (N + 2)) ∧ ad = some ⟨g, 0, none⟩ ∧ w.heap.size ≤ g ∧ Own w' g 9 1 (srows (l ++ roomS 2)) ∧ Below w.heap.size w w' := by
  have HN : Hid (N = l.length) := hN
  have HC := copy_room l N hN
  have HCO : Hid ((List.range N).map (fun i => [Value.string (str (l.getD i []))]) ++ (List.replicate (N + 2) [Value.string ⟨#[]⟩]).drop N = srows (l ++ roomS 0)) := HC
  clear hN HC
  go_enter Try.func24, Try.ntmps24
  go_wp2_with (first
    | (at_make; refine wpList_make_ones (by rfl) _ _ 46 (by rfl) 9 (.string ⟨#[]⟩) 16 Try.underlying46 (by kernel_rfl) rfl (N + 2) _ ?_ (by rfl) (by rfl) ?_ ?_ ?_; (omega); (omega); (omega); intro g ad w1 he hg hl1 o1 hb1)
    | (refine wpList_copy_rows (by rfl) _ _ 46 46 (by rfl) 9 1 Try.underlying46 (by kernel_rfl) g ad he (N + 2) _ N _ _ (by rfl) (by rfl) (fun i => [.string (str (l.getD i []))]) _ o1 ?_ ?_ (hL.below hb1) ?_ ?_ ?_; (simp); (omega); (intro i _; rfl); (intro i _ v hv; simp at hv; subst hv; rfl); intro w2 o2 u2))
  rw [HCO.out] at o2
  have hb2 := u2.below hb1 hg
  clear o1 hb1 u2 hl1
  go_loopw [4] (fun v wr => ∃ i : Nat, i ≤ 2 ∧ v = .int .i64 i ∧ Own wr g 9 1 (srows (l ++ roomS i)) ∧ Below w.heap.size w wr) (fun u _ => 2 - (intOf u).toNat)
  case atStart => exact ⟨0, by omega, rfl, o2, hb2⟩
  case round =>
    obtain ⟨i, hi, rfl, o, hbw⟩ := hrel
    by_cases hlt : i < 2
    · have x1 := fun w' => Own.idx he (P := Try.prog) (t := 46) (m := 1) (N + 2) (N + 2) (by kernel_rfl) (by kernel_rfl) (k := N + i) (by omega) ((N : Int) + (i : Int)) (by omega) w'
      simp only [Nat.mul_one] at x1
      obtain ⟨c0, f0⟩ := srows_at o (N + i) (by rw [List.length_append, roomS_len i hi, ← HN.out]; omega)
      have HS : Hid (Own (wr.setCell ⟨g, N + i, none⟩ (.string (str foS))) g 9 1 (srows (l ++ roomS (i + 1)))) := by
        have := srows_set o (N + i) foS
        rw [show N + i = l.length + i by rw [HN.out], roomS_set l i hlt, ← HN.out] at this
        exact this
      have HB : Hid (Below w.heap.size w (wr.setCell ⟨g, N + i, none⟩ (.string (str foS)))) := ((Upd.refl g wr).setCell _ rfl _).below hbw hg
      clear o
      go_wp2_with fail
      go_roundw
      case rel => exact ⟨i + 1, by omega, by go_num, HS.out, HB.out⟩
      case measure => simp [intOf]; omega
    · obtain rfl : i = 2 := by omega
      have u1 : (0 : Int) ≤ (N : Int) := by omega
      have u2 : (N : Int) ≤ (N : Int) + 2 := by omega
      go_wp2_with fail
      go_ret
      exact ⟨g, ad, rfl, he.out, hg, o, hbw⟩

set_option maxRecDepth 100000 in
set_option maxHeartbeats 4000000 in
theorem stillList_any (l : List (List UInt8)) (ad0 : Option Addr) (N cap0 : Nat) (g : Nat) (ad : Option Addr) (w : World) (hL : Lies w ad0 N 1 (fun i => [.string (str (l.getD i []))])) (hN : N = l.length) (hb : N ≤ 1099511627776) (had : Hid (ad = some ⟨g, 0, none⟩)) (ho : Own w g 9 1 (srows (l ++ roomS 2))) :
    Calls Try.prog 27 #[.slice ad N (N + 2), .slice ad0 N cap0] w fun e w' => e = .returned (.bool true) ∧ Below w.heap.size w w' := by
  have HN : Hid (N = l.length) := hN
  have HL : Hid (Lies w ad0 N 1 (fun i => [.string (str (l.getD i []))])) := hL
  have HO : Hid (Own w g 9 1 (srows (l ++ roomS 2))) := ho
  have HL2 : Hid (Lies w ad N 1 (fun i => [.string (str (l.getD i []))])) := srows_lies ho had.out (by rw [List.length_append, hN]; omega) (fun i hi => getD_room _ _ _ (by omega))
  clear hL hN ho
  go_enter Try.func27, Try.ntmps27
  go_wp2_with fail
  refine (sameStrings_any N (fun i => l.getD i []) ad ad0 _ cap0 _ HL2.out HL.out (by omega)).mono ?_
  rintro e w1 ⟨rfl, hb1⟩
  have HO1 : Hid (Own w1 g 9 1 (srows (l ++ roomS 2))) := ⟨HO.out.even, by rw [hb1.block g (Array.getElem?_eq_some_iff.1 HO.out.block).1]; exact HO.out.block⟩
  have HB1 : Hid (Below w.heap.size w w1) := hb1
  clear hb1
  have u1 : (0 : Int) ≤ (N : Int) := by omega
  have u2 : (N : Int) + 2 ≤ (N : Int) + 2 := by omega
  go_wp2_with fail
  go_loopw [7] (fun v wr => ∃ i : Nat, i ≤ 2 ∧ v = .int .i64 i ∧ wr = w1) (fun u _ => 2 - (intOf u).toNat)
  case atStart => exact ⟨0, by omega, rfl, rfl⟩
  case round =>
    obtain ⟨i, hi, rfl, hw⟩ := hrel
    subst hw
    by_cases hlt : i < 2
    · have x1 := fun w' => Own.idx had (P := Try.prog) (t := 46) (m := 1) (N + 2) (N + 2) (by kernel_rfl) (by kernel_rfl) (k := N + i) (by omega) ((N : Int) + (i : Int)) (by omega) w'
      simp only [Nat.mul_one] at x1
      obtain ⟨c0, f0⟩ := srows_at HO1.out (N + i) (by rw [List.length_append, roomS_len 2 (by omega), ← HN.out]; omega)
      have e0 : (l ++ roomS 2).getD (N + i) [] = foS := by
        rw [List.getD_eq_getElem?_getD, HN.out, List.getElem?_append_right (by omega), Nat.add_sub_cancel_left]
        match i, hlt with
        | 0, _ => rfl
        | 1, _ => rfl
      rw [e0] at c0
      have q0 : ((str foS).toList == [102, 111, 114, 101, 105, 103, 110]) = true := by rw [str_toList]; rfl
      have q1 : ((str foS).toList != [102, 111, 114, 101, 105, 103, 110]) = false := by rw [str_toList]; rfl
      clear e0
      go_wp2_with fail
      go_roundw
      case rel => exact ⟨i + 1, by omega, by go_num, by first | rfl | trivial⟩
      case measure => simp [intOf]; omega
    · go_wp2_with fail
      go_ret
      exact ⟨rfl, HB1.out⟩

set_option maxRecDepth 100000 in
set_option maxHeartbeats 4000000 in
theorem joins_any (l : List (List UInt8)) (ad0 : Option Addr) (N cap0 : Nat) (w : World) (hL : Lies w ad0 N 1 (fun i => [.string (str (l.getD i []))])) (hN : N = l.length) (hl : ∀ v, v ∈ l → v.length ≤ 34359738368) (hb : N ≤ 1099511627776) :
    Calls Try.prog 9 #[.slice ad0 N cap0] w fun e w' => e = .returned (.bool true) ∧ Below w.heap.size w w' := by
  have HN : Hid (N = l.length) := hN
  have HL : Hid (Lies w ad0 N 1 (fun i => [.string (str (l.getD i []))])) := hL
  have HLE : Hid (∀ v, v ∈ l → v.length ≤ 34359738368) := hl
  clear hL hN hl
  go_enter Try.func9, Try.ntmps9
  go_wp2_with fail
  refine (handedList_any l ad0 N cap0 _ HL.out HN.out hb).mono ?_
  rintro e w1 ⟨g, ad, rfl, had, hg, ho, hb1⟩
  have HAD : Hid (ad = some ⟨g, 0, none⟩) := had
  have HO : Hid (Own w1 g 9 1 (srows (l ++ roomS 2))) := ho
  have HB1 : Hid (Below w.heap.size w w1) := hb1
  have HL2 : Hid (Lies w1 ad N 1 (fun i => [.string (str (l.getD i []))])) := srows_lies ho had (by rw [List.length_append, HN.out]; omega) (fun i hi => getD_room _ _ _ (by rw [← HN.out]; exact hi))
  clear had ho hb1
  go_wp2_with fail
  refine (pjoin_any l ad N (N + 2) _ HL2.out HN.out HLE.out hb).mono ?_
  rintro e w2 ⟨rfl, hb2⟩
  have HB2 : Hid (Below w1.heap.size w1 w2) := hb2
  obtain ⟨jb, hjb⟩ : ∃ x, x = (joinRd l).b := ⟨_, rfl⟩
  obtain ⟨je, hje⟩ : ∃ x, x = (joinRd l).err := ⟨_, rfl⟩
  obtain ⟨ja, hja⟩ : ∃ x, x = (joinRd l).at_ := ⟨_, rfl⟩
  have HJ : Hid (jnV (joinRd l) = .tuple #[.string (str jb), .int .i64 je, .int .i64 (ja : Int)]) := by show _ = _; rw [hjb, hje, hja]
  clear hjb hje hja hb2
  rw [HJ.out]
  go_wp2_with fail
  refine (rjoin_any l ad0 N cap0 _ ((HL.out.below HB1.out).below HB2.out) HN.out HLE.out hb).mono ?_
  rintro e w3 ⟨rfl, hb3⟩
  have HB3 : Hid (Below w1.heap.size w1 w3) := HB2.out.trans (hb3.mono HB2.out.size)
  have HO3 : Hid (Own w3 g 9 1 (srows (l ++ roomS 2))) := ⟨HO.out.even, by rw [HB3.out.block g (Array.getElem?_eq_some_iff.1 HO.out.block).1]; exact HO.out.block⟩
  rw [HJ.out]
  clear hb3
  go_wp2_with fail
  refine (stillList_any l ad0 N cap0 g ad _ ((HL.out.below HB1.out).below HB3.out) HN.out hb HAD HO3.out).mono ?_
  rintro e w4 ⟨rfl, hb4⟩
  have HB4 : Hid (Below w1.heap.size w1 w4) := HB3.out.trans (hb4.mono HB3.out.size)
  clear hb4
  have q0 : ((str jb).toList == (str jb).toList) = true := by simp
  go_wp2_with fail
  go_ret
  exact ⟨by simp, HB1.out.trans (HB4.out.mono HB1.out.size)⟩
end Go.Proofs.Ytdjpkgaicmklmaa

/- A replica that comes in, opened: its reading as data gives its rows. -/
namespace Go.Proofs.Ytdjpkgaicmklmaa
open Go.ChangeShapes Go.WideShapes Go.ChangeAt Go.RowKit Go.Joins Go.Deep

section
variable {H : Type} {enc : TypeId × Value → H} {w : World} {base : Nat} {spare : Nat → Bool} {held : Bool}

theorem Try.cellsInt : Try.prog.cellsOf 3 = 1 := by kernel_rfl
theorem Try.cellsBool : Try.prog.cellsOf 4 = 1 := by kernel_rfl
theorem Try.cellsString : Try.prog.cellsOf 9 = 1 := by kernel_rfl
theorem Try.cellsClock : Try.prog.cellsOf 67 = 2 := by kernel_rfl
theorem Try.cellsCard : Try.prog.cellsOf 69 = 5 := by kernel_rfl
theorem Try.cellsEdit : Try.prog.cellsOf 71 = 2 := by kernel_rfl

theorem list2 {α : Type} {l : List α} (h : l.length = 2) : ∃ a b, l = [a, b] := by
  match l, h with
  | [a, b], _ => exact ⟨a, b, rfl⟩
theorem list5 {α : Type} {l : List α} (h : l.length = 5) : ∃ a b c d e, l = [a, b, c, d, e] := by
  match l, h with
  | [a, b, c, d, e], _ => exact ⟨a, b, c, d, e, rfl⟩

theorem read_clock {n : Nat} {cs : List Value} {x : DataW H × List MemPlace} (h : DataW.trod enc Try.prog w base spare held n 67 cs = some x) : ∃ c : Ck, cs = c.cells := by
  obtain ⟨xs, k, _, _, hl, hlen, hf⟩ := DataW.trod_struct Try.underlying67 h
  rw [Try.cellsClock] at hl
  obtain ⟨c0, c1, rfl⟩ := list2 hl
  obtain ⟨y0, y1, rfl⟩ := list2 (show xs.length = 2 from hlen)
  have g0 := hf 0 _ rfl
  have g1 := hf 1 _ rfl
  simp [Try.cellsInt] at g0 g1
  obtain ⟨n0, e0, _⟩ := DataW.trod_int Try.underlying3 g0
  obtain ⟨n1, e1, _⟩ := DataW.trod_int Try.underlying3 g1
  simp at e0 e1
  subst e0 e1
  exact ⟨⟨n0, n1⟩, rfl⟩

theorem read_edit {n : Nat} {cs : List Value} {x : DataW H × List MemPlace} (h : DataW.trod enc Try.prog w base spare held n 71 cs = some x) : ∃ c : Ed, cs = c.cells := by
  obtain ⟨xs, k, _, _, hl, hlen, hf⟩ := DataW.trod_struct Try.underlying71 h
  rw [Try.cellsEdit] at hl
  obtain ⟨c0, c1, rfl⟩ := list2 hl
  obtain ⟨y0, y1, rfl⟩ := list2 (show xs.length = 2 from hlen)
  have g0 := hf 0 _ rfl
  have g1 := hf 1 _ rfl
  simp [Try.cellsInt, Try.cellsString] at g0 g1
  obtain ⟨n0, e0, _⟩ := DataW.trod_int Try.underlying3 g0
  obtain ⟨n1, e1, _⟩ := DataW.trod_string Try.underlying9 g1
  simp at e0 e1
  subst e0 e1
  exact ⟨⟨n0, n1⟩, rfl⟩

theorem read_card {n : Nat} {cs : List Value} {x : DataW H × List MemPlace} (h : DataW.trod enc Try.prog w base spare held n 69 cs = some x) : ∃ c : Cd, cs = c.cells := by
  obtain ⟨xs, k, _, _, hl, hlen, hf⟩ := DataW.trod_struct Try.underlying69 h
  rw [Try.cellsCard] at hl
  obtain ⟨c0, c1, c2, c3, c4, rfl⟩ := list5 hl
  obtain ⟨y0, y1, y2, y3, y4, rfl⟩ := list5 (show xs.length = 5 from hlen)
  have g0 := hf 0 _ rfl
  have g1 := hf 1 _ rfl
  have g2 := hf 2 _ rfl
  have g3 := hf 3 _ rfl
  have g4 := hf 4 _ rfl
  simp [Try.cellsInt, Try.cellsString, Try.cellsBool] at g0 g1 g2 g3 g4
  obtain ⟨n0, e0, _⟩ := DataW.trod_int Try.underlying3 g0
  obtain ⟨n1, e1, _⟩ := DataW.trod_int Try.underlying3 g1
  obtain ⟨n2, e2, _⟩ := DataW.trod_int Try.underlying3 g2
  obtain ⟨n3, e3, _⟩ := DataW.trod_bool Try.underlying4 g3
  obtain ⟨n4, e4, _⟩ := DataW.trod_string Try.underlying9 g4
  simp at e0 e1 e2 e3 e4
  subst e0 e1 e2 e3 e4
  exact ⟨⟨n0, n1, n2, n3, n4⟩, rfl⟩

theorem addr_plus (b off j : Nat) : (⟨b, off, none⟩ : Addr).add j = ⟨b, off + j, none⟩ := by
  unfold Addr.add
  by_cases h : j = 0 <;> simp [h]

/-- A slice of records that comes in. -/
theorem read_rows {α : Type} [Inhabited α] (cells : α → List Value) (m : Nat) {t e : TypeId} {fuel : Nat} {v : Value} {x : DataW H × List MemPlace} (ht : Try.prog.underlying t = some (.slice e)) (hc : Try.prog.cellsOf e = m) (h0 : 0 < m)
    (hr : ∀ (n : Nat) (cs : List Value) (y : DataW H × List MemPlace), DataW.trod enc Try.prog w 0 (fun _ => true) held n e cs = some y → ∃ c : α, cs = cells c)
    (h : DataW.trod enc Try.prog w 0 (fun _ => true) held fuel t [v] = some x) :
    ∃ (a : Option Addr) (n k : Nat) (f : Nat → α), v = .slice a n k ∧ Lies w a n m (fun i => cells (f i)) ∧ n ≤ k ∧ ((x.1 = .nil ∧ n = 0) ∨ ∃ el sp : List (DataW H), x.1 = .slice el sp ∧ el.length + sp.length = k) := by
  rcases open_slice ht h with ⟨hcs, hx⟩ | ⟨a, len, cap, mm, n, D, Pl, hcs, _, hl, hm, hmm, hx, hel⟩
  · simp at hcs
    exact ⟨none, 0, 0, fun _ => default, hcs, Or.inl rfl, Nat.le_refl _, Or.inl ⟨by rw [hx], rfl⟩⟩
  · simp at hcs
    simp at hmm
    subst hmm
    rw [hc] at hel
    have hall : ∀ i, i < mm → ∃ c : α, w.cells? 0 (a.add (i * m)) m = some (cells c) := fun i hi => by
      obtain ⟨cs', h1, h2⟩ := hel i hi
      obtain ⟨c, rfl⟩ := hr _ _ _ h2
      exact ⟨c, h1⟩
    obtain ⟨f, hf⟩ := choose_lt (α := α) (p := fun i c => w.cells? 0 (a.add (i * m)) m = some (cells c)) hall
    refine ⟨some a, len, mm, f, hcs, ?_, hl, Or.inr ⟨_, _, by rw [hx], by simp; omega⟩⟩
    by_cases hz : len = 0
    · exact Or.inl hz
    · obtain ⟨b, off, spot⟩ := a
      obtain ⟨_, hlen0, hc0⟩ := World.cells?_some (hf 0 (by omega))
      have hcell : w.cell? ((Addr.add ⟨b, off, spot⟩ (0 * m)).add 0) = (cells (f 0))[0]? := hc0 0 h0
      rw [List.getElem?_eq_getElem (by omega)] at hcell
      have hspot : spot = none := by simpa [Addr.add] using World.cell?_spot hcell
      subst hspot
      have hblk : b < w.heap.size := by
        simp only [Nat.zero_mul, addr_plus, Nat.add_zero] at hcell
        unfold World.cell? at hcell
        rcases Nat.lt_or_ge b w.heap.size with h | h
        · exact h
        · simp [Array.getElem?_eq_none h] at hcell
      refine Or.inr ⟨b, off, rfl, hblk, fun i hi j v hj hv => ?_⟩
      obtain ⟨_, _, hci⟩ := World.cells?_some (hf i (by omega))
      have := hci j hj
      rw [addr_plus, addr_plus] at this
      rw [this, hv]

theorem Try.bytesClock : Try.prog.bytesOf 67 = 16 := by kernel_rfl
theorem Try.bytesCard : Try.prog.bytesOf 69 = 48 := by kernel_rfl
theorem Try.bytesEdit : Try.prog.bytesOf 71 = 24 := by kernel_rfl

/-- The bytes of a slice that came in. -/
theorem weigh {t e : TypeId} {d : DataW H} {n k b : Nat} (ht : Try.prog.underlying t = some (.slice e)) (hb : Try.prog.bytesOf e = b) (hn : n ≤ k)
    (hx : (d = .nil ∧ n = 0) ∨ ∃ el sp : List (DataW H), d = .slice el sp ∧ el.length + sp.length = k) (hw : ∀ q, q ∈ d.weights Try.prog t → q ≤ reachBytes) : n * b ≤ reachBytes := by
  rcases hx with ⟨_, rfl⟩ | ⟨el, sp, rfl, rfl⟩
  · simp
  · have := hw ((el.length + sp.length) * Try.prog.bytesOf e) (by simp [DataW.weights, ht])
    rw [hb] at this
    exact Nat.le_trans (Nat.mul_le_mul_right _ hn) this

set_option maxRecDepth 100000 in
/-- A replica that comes in. -/
theorem open_rep {r : Reach} {b0 : Nat} {v : Value} {d : DataW H} {p : List MemPlace} (hv : Value.okWide Try.prog w r b0 26 v)
    (h : DataW.Trod enc Try.prog w 0 (fun _ => true) held 26 v d p) (hw : ∀ q, q ∈ d.weights Try.prog 26 → q ≤ reachBytes) :
    ∃ (R : Rep) (a1 a2 a3 : Option Addr) (k1 k2 k3 : Nat), v = repV R a1 a2 a3 k1 k2 k3 ∧ Has w R a1 a2 a3 := by
  obtain ⟨v0, v1, v2, y0, y1, y2, n, rfl, rfl, _, h0, h1, h2⟩ := open_agg3 Try.underlying26 (by kernel_rfl) (by kernel_rfl) hv h
  have : Inhabited Ck := ⟨⟨0, 0⟩⟩
  have : Inhabited Cd := ⟨⟨0, 0, 0, false, ⟨#[]⟩⟩⟩
  have : Inhabited Ed := ⟨⟨0, ⟨#[]⟩⟩⟩
  obtain ⟨a1, n1, k1, c, rfl, l1, m1, x1⟩ := read_rows Ck.cells 2 Try.underlying22 Try.cellsClock (by omega) (fun _ _ _ hh => read_clock hh) h0
  obtain ⟨a2, n2, k2, dd, rfl, l2, m2, x2⟩ := read_rows Cd.cells 5 Try.underlying23 Try.cellsCard (by omega) (fun _ _ _ hh => read_card hh) h1
  obtain ⟨a3, n3, k3, e, rfl, l3, m3, x3⟩ := read_rows Ed.cells 2 Try.underlying24 Try.cellsEdit (by omega) (fun _ _ _ hh => read_edit hh) h2
  have hw' : ∀ q, q ∈ DataW.weightsEach Try.prog [22, 23, 24] [y0.1, y1.1, y2.1] → q ≤ reachBytes := fun q hq => hw q (by
    simp only [DataW.weights, Try.underlying26]; exact hq)
  simp only [DataW.weightsEach, List.mem_append] at hw'
  have z1 := weigh Try.underlying22 Try.bytesClock m1 x1 (fun q hq => hw' q (Or.inl hq))
  have z2 := weigh Try.underlying23 Try.bytesCard m2 x2 (fun q hq => hw' q (Or.inr (Or.inl hq)))
  have z3 := weigh Try.underlying24 Try.bytesEdit m3 x3 (fun q hq => hw' q (Or.inr (Or.inr (Or.inl hq))))
  unfold reachBytes at z1 z2 z3
  exact ⟨⟨n1, n2, n3, c, dd, e⟩, a1, a2, a3, k1, k2, k3, rfl, l1, l2, l3, by show n1 ≤ _; omega, by show n2 ≤ _; omega, by show n3 ≤ _; omega, by show 16 * n1 ≤ _; omega, by show 48 * n2 ≤ _; omega, by show 24 * n3 ≤ _; omega⟩
end
end Go.Proofs.Ytdjpkgaicmklmaa

/- A list of strings that comes in, opened. -/
namespace Go.Proofs.Ytdjpkgaicmklmaa
open Go.WideShapes Go.ChangeAt Go.RowKit Go.Joins Go.Deep
open Go.ChangeShapes (open_strings)

section
variable {H : Type} {enc : TypeId × Value → H} {w : World} {base : Nat} {held : Bool}

theorem texts_lies {w : World} {ad : Addr} {n : Nat} {ss : List ByteArray} (hn : n ≤ ss.length) (hc : ∀ i, i < ss.length → w.cell? (ad.add i) = some (.string (ss.getD i ByteArray.empty))) :
    Lies w (some ad) n 1 (fun i => [.string (str ((((ss.take n).map fun s => s.data.toList)).getD i []))]) := by
  by_cases hz : n = 0
  · exact Or.inl hz
  · obtain ⟨b, off, spot⟩ := ad
    have hcell := hc 0 (by omega)
    have hspot : spot = none := by simpa [Addr.add] using World.cell?_spot hcell
    subst hspot
    have hblk : b < w.heap.size := by
      simp only [addr_plus, Nat.add_zero] at hcell
      unfold World.cell? at hcell
      rcases Nat.lt_or_ge b w.heap.size with h | h
      · exact h
      · simp [Array.getElem?_eq_none h] at hcell
    refine Or.inr ⟨b, off, rfl, hblk, fun i hi j v hj hv => ?_⟩
    obtain rfl : j = 0 := by omega
    have := hc i (by omega)
    rw [addr_plus] at this
    rw [show off + i * 1 + 0 = off + i by omega, this]
    have e : ((ss.take n).map fun s => s.data.toList).getD i [] = (ss.getD i ByteArray.empty).data.toList := by
      rw [List.getD_eq_getElem?_getD, List.getElem?_map, List.getElem?_take_of_lt hi, List.getD_eq_getElem?_getD]
      rw [List.getElem?_eq_getElem (by omega)]; rfl
    simp only [e, str_data] at hv
    simpa using hv

set_option maxRecDepth 100000 in
/-- A list of strings. -/
theorem open_texts {r : Reach} {b0 : Nat} {v : Value} {d : DataW H} {p : List MemPlace} (hok : Value.okWide Try.prog w r b0 46 v) (h : DataW.Trod enc Try.prog w 0 (fun _ => true) held 46 v d p) :
    ∃ (a : Option Addr) (n k : Nat) (l : List (List UInt8)), v = .slice a n k ∧ n = l.length ∧ Lies w a n 1 (fun i => [.string (str (l.getD i []))]) ∧ n ≤ k ∧ ((d = .nil ∧ l = []) ∨ ∃ sp : List (DataW H), d = .slice (l.map fun s => .lit (.string s)) sp ∧ l.length + sp.length = k) := by
  obtain ⟨x, y, z, rfl⟩ := okWide_slice Try.underlying46 hok
  obtain ⟨fuel, hh⟩ := h
  rcases open_strings Try.underlying46 Try.underlying9 Try.cellsString hh with ⟨hcs, hx⟩ | ⟨a, len, cap, ss, hcs, _, hl, hm, hz, hx, hcell, hws⟩
  · simp [Value.cells] at hcs
    obtain ⟨rfl, rfl, rfl⟩ := hcs
    exact ⟨none, 0, 0, [], rfl, rfl, Or.inl rfl, Nat.le_refl _, Or.inl ⟨by simpa using congrArg Prod.fst hx, rfl⟩⟩
  · simp [Value.cells] at hcs
    obtain ⟨rfl, rfl, rfl⟩ := hcs
    simp at hz
    refine ⟨some a, y, z, (ss.take y).map (fun s => s.data.toList), rfl, by simp; omega, texts_lies (by omega) hcell, hl, Or.inr ⟨Go.ChangeShapes.strs (ss.drop y), ?_, ?_⟩⟩
    · have := congrArg Prod.fst hx
      simp only at this
      rw [this, List.map_map]
      rfl
    · simp [Go.ChangeShapes.strs]; omega
end

theorem bulk_texts {H : Type} : ∀ l : List (List UInt8), l.length ≤ Rows.uptoBulkAll (H := H) (l.map fun s => .lit (.string s)) ∧ ∀ s ∈ l, s.length ≤ Rows.uptoBulkAll (H := H) (l.map fun s => .lit (.string s))
  | [] => ⟨by simp, by intro s h; cases h⟩
  | a :: l => by
    obtain ⟨h1, h2⟩ := bulk_texts (H := H) l
    simp only [List.map_cons, Rows.uptoBulkAll, Rows.uptoBulk, List.length_cons]
    refine ⟨by omega, fun s hs => ?_⟩
    rcases List.mem_cons.1 hs with rfl | hs
    · omega
    · have := h2 s hs; omega
/-- What the bound gives of a list of strings. -/
theorem bulk_list {H : Type} {d : DataW H} {l : List (List UInt8)} {k : Nat} (h : (d = .nil ∧ l = []) ∨ ∃ sp : List (DataW H), d = .slice (l.map fun s => .lit (.string s)) sp ∧ l.length + sp.length = k) (hb : Rows.uptoBulk d ≤ 1048576) : l.length ≤ 1048576 ∧ ∀ s ∈ l, s.length ≤ 1048576 := by
  rcases h with ⟨_, rfl⟩ | ⟨sp, rfl, _⟩
  · exact ⟨by simp, by intro s h; cases h⟩
  · obtain ⟨h1, h2⟩ := bulk_texts (H := H) l
    simp only [Rows.uptoBulk] at hb
    exact ⟨by omega, fun s hs => by have := h2 s hs; omega⟩
end Go.Proofs.Ytdjpkgaicmklmaa

