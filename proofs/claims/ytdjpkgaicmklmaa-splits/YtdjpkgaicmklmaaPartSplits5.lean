/- Texts of the proof, one behind the other; what each holds is said at its head. -/
import Derived.Test.YtdjpkgaicmklmaaPartSplits4
import Derived.BigQuiet
import Derived.Deep.QuietTactic
import Derived.Test.YtdjpkgaicmklmaaPartSplits2
import Derived.Test.YtdjpkgaicmklmaaPartSplits3
import Derived.Test.YtdjpkgaicmklmaaPartSplits0
import Derived.ProofKit
import Derived.SizedLaws
import Derived.Lib.SmallJoins
import Derived.Deep.Slices
/- Salvage, of the reference and of the program, walked. -/
namespace Go.Proofs.Ytdjpkgaicmklmaa
open Go.RowKit

/-- What is found from a place on. -/
def salvF : Nat → Nat → List UInt8 → List Fd
  | 0, _, _ => []
  | k + 1, i, s => if s = [] then [] else match standRd s with
    | some (f, n) => f.putI i :: salvF k (i + n) (s.drop n)
    | none => salvF k (i + 1) (s.drop 1)
def salv (b : List UInt8) : List Fd := salvF b.length 0 b
theorem salvF_nil (k i : Nat) : salvF k i [] = [] := by cases k <;> rfl
theorem salvF_none {k i : Nat} {s : List UInt8} (hne : s ≠ []) (h : standRd s = none) : salvF (k + 1) i s = salvF k (i + 1) (s.drop 1) := by simp only [salvF, if_neg hne, h]
theorem salvF_some {k i : Nat} {s : List UInt8} {f : Fd} {n : Nat} (hne : s ≠ []) (h : standRd s = some (f, n)) : salvF (k + 1) i s = f.putI i :: salvF k (i + n) (s.drop n) := by simp only [salvF, if_neg hne, h]
theorem standRd_le {s : List UInt8} {f : Fd} {n : Nat} (h : standRd s = some (f, n)) : 7 < n ∧ n ≤ s.length := by
  match s, h with
  | x :: y :: k :: t, h =>
    simp only [standRd] at h
    split at h
    · split at h
      · cases h
      · split at h
        · cases hr : recRd (t.take k.toNat) with
          | none => rw [hr] at h; cases h
          | some g => rw [hr] at h; simp at h; obtain ⟨_, rfl⟩ := h; simp; omega
        · cases h
    · cases h
theorem onesF (f : Fd) : ∀ v, v ∈ f.cells → v.oneCell' = true := by intro v h; simp at h; rcases h with rfl | rfl | rfl | rfl | rfl | rfl | rfl | rfl | rfl <;> rfl

set_option maxRecDepth 100000 in
set_option maxHeartbeats 4000000 in
theorem rsalvage_any (b : List UInt8) (w : World) (hb : b.length ≤ 1099511627776) :
    Calls Try.prog 49 #[.string (str b)] w fun e w' => ∃ ad cap N, e = .returned (.slice ad N cap) ∧ N = (salv b).length ∧ Vec w' w.heap.size 64 9 ad N cap (fcells (salv b)) ∧ Below w.heap.size w w' := by
  have hz := str_size b
  have HZ : Hid ((str b).size = b.length) := hz
  have hbb : (str b).size ≤ 1099511627776 := by omega
  have HB : Hid (b.length ≤ 1099511627776) := hb
  clear hz hb
  go_enter Try.func49, Try.ntmps49
  go_wp2_with fail
  go_loopw [3, 4, 5, 6] (fun v u _ _ wr => ∃ (i : Nat) (ad : Option Addr) (cap N k : Nat) (l : List Fd), i ≤ (str b).size ∧ u = .int .i64 i ∧ v = .slice ad N cap ∧ N = l.length ∧ N ≤ i ∧ b.length - i ≤ k ∧ l ++ salvF k i (b.drop i) = salv b ∧ Vec wr w.heap.size 64 9 ad N cap (fcells l) ∧ Below w.heap.size w wr) (fun _ u _ _ _ => b.length - (intOf u).toNat)
  case atStart => exact ⟨0, _, _, 0, b.length, [], by omega, rfl, rfl, rfl, by omega, by omega, by simp [salv], Vec.nil _ _ _ _, Below.refl _ _⟩
  case round =>
    obtain ⟨i, ad, cap, N, k, l, hi, rfl, rfl, hN, hNi, hk, hl, hv, hbw⟩ := hrel
    have HN : Hid (N = l.length) := hN
    have HL : Hid (l ++ salvF k i (b.drop i) = salv b) := hl
    have HK : Hid (b.length - i ≤ k) := hk
    clear hN hl hk
    by_cases hlt : i < (str b).size
    · have hi2 : i ≤ b.length := by rw [← HZ.out]; omega
      go_wp2_with fail
      refine (rstands_any b i _ HB.out hi2).mono ?_
      rintro e w1 ⟨rfl, hb1⟩
      have hv1 := hv.keep hb1
      have hbw1 := hbw.trans (hb1.mono hbw.size)
      have hz1 := hbw1.size
      clear hv hbw hb1
      obtain ⟨k, rfl⟩ : ∃ k', k = k' + 1 := ⟨k - 1, by have := HK.out; have := HZ.out; omega⟩
      have hne : b.drop i ≠ [] := by
        intro h; have := congrArg List.length h; simp at this; have := HZ.out; omega
      cases hst : standRd (b.drop i) with
      | none =>
        have HS : Hid (l ++ salvF k (i + 1) (b.drop (i + 1)) = salv b) := by
          show _ = _; rw [← HL.out, salvF_none hne hst, List.drop_drop]
        simp only [standV]
        clear hst hne HL
        go_wp2_with fail
        go_roundw
        case rel => exact ⟨i + 1, ad, cap, N, k, l, by omega, by go_num, rfl, HN.out, by omega, by have := HK.out; omega, HS.out, hv1.keep ((Below.refl _ _).alloc (Nat.le_refl _) _), hbw1.alloc hz1 _⟩
        case measure => have := HZ.out; simp [intOf]; omega
      | some p =>
        obtain ⟨f, n⟩ := p
        have hn := standRd_le hst
        simp at hn
        have HS : Hid ((l ++ [f.putI i]) ++ salvF k (i + n) (b.drop (i + n)) = salv b) := by
          show _ = _; rw [← HL.out, salvF_some hne hst, List.drop_drop]; simp
        have hnl : i + n ≤ (str b).size := by have := HZ.out; omega
        have hn7 : 7 < n := by omega
        simp only [standV]
        clear hst hne HL hn
        have hn0 : 0 < n := by omega
        have hvx : ∀ o1 o2, Vec ((w1.alloc o1).alloc o2) w.heap.size 64 9 ad N cap (fcells l) := fun o1 o2 => hv1.keep (((Below.refl _ w1).alloc (Nat.le_refl _) _).alloc (by simp) _)
        have HX : Hid (∀ o1 o2, Vec ((w1.alloc o1).alloc o2) w.heap.size 64 9 ad N cap (fcells l)) := hvx
        clear hvx
        go_wp2_with (at_builtin; refine wpList_push (by rfl) _ _ 57 (by rfl) w.heap.size 64 9 80 (.agg #[.int .i64 0, .int .i64 0, .int .i64 0, .int .i64 0, .int .i64 0, .int .i64 0, .int .i64 0, .bool false, .string ⟨#[]⟩]) Try.underlying57 (by kernel_rfl) rfl (by decide) ad N cap _ (by rfl) (HX.out _ _) _ _ (f.putI i).cells (by rfl) rfl ?_ ?_ ?_ ?_ ?_ ?_; exact new_cells2 _ _ _ _; exact onesF _; (omega); (omega); (simp; omega); intro ad' cap' w' hv' hb' hs')
        have h2 : Below w.heap.size w w' := ((hbw1.alloc hz1 _).alloc (by simp; omega) _).trans hb'
        have hv2 : Vec w' w.heap.size 64 9 ad' (N + 1) cap' (fcells (l ++ [f.putI i])) := by
          rw [fcells_append, fcells_one]; exact hv'
        go_roundw
        case rel => exact ⟨i + n, ad', cap', N + 1, k, l ++ [f.putI i], by omega, by go_num, rfl, by have := HN.out; simp; omega, by omega, by have := HK.out; omega, HS.out, hv2, h2⟩
        case measure => have := HZ.out; simp [intOf]; omega
    · have he : b.drop i = [] := List.drop_of_length_le (by rw [← HZ.out]; omega)
      have HS : Hid (l = salv b) := by show _ = _; rw [← HL.out, he, salvF_nil]; simp
      go_wp2_with fail
      go_ret
      exact ⟨ad, cap, N, rfl, by rw [← HS.out]; exact HN.out, by rw [← HS.out]; exact hv, hbw⟩

set_option maxRecDepth 100000 in
set_option maxHeartbeats 4000000 in
theorem bsalvage_any (b : List UInt8) (w : World) (hb : b.length ≤ 1099511627776) :
    Calls Try.prog 73 #[.string (str b)] w fun e w' => ∃ ad cap N, e = .returned (.slice ad N cap) ∧ N = (salv b).length ∧ Vec w' w.heap.size 64 9 ad N cap (fcells (salv b)) ∧ Below w.heap.size w w' := by
  have hz := str_size b
  have HZ : Hid ((str b).size = b.length) := hz
  have hbb : (str b).size ≤ 1099511627776 := by omega
  have HB : Hid (b.length ≤ 1099511627776) := hb
  clear hz hb
  have hV0 : Hid (Vec (w.alloc (.cells #[] 64)) w.heap.size 64 9 (some ⟨w.heap.size, 0, none⟩) 0 0 (fcells [])) := Vec.lit w w.heap.size 64 9 0 [] (Nat.le_refl _) (by omega) rfl
  go_enter Try.func73, Try.ntmps73
  go_wp2_with fail
  go_loopw [3, 4, 5, 6] (fun v u _ _ wr => ∃ (i : Nat) (ad : Option Addr) (cap N k : Nat) (l : List Fd), i ≤ (str b).size ∧ u = .int .i64 i ∧ v = .slice ad N cap ∧ N = l.length ∧ N ≤ i ∧ b.length - i ≤ k ∧ l ++ salvF k i (b.drop i) = salv b ∧ Vec wr w.heap.size 64 9 ad N cap (fcells l) ∧ Below w.heap.size w wr) (fun _ u _ _ _ => b.length - (intOf u).toNat)
  case atStart => exact ⟨0, _, _, 0, b.length, [], by omega, rfl, rfl, rfl, by omega, by omega, by simp [salv], hV0.out, (Below.refl _ _).alloc (Nat.le_refl _) _⟩
  case round =>
    obtain ⟨i, ad, cap, N, k, l, hi, rfl, rfl, hN, hNi, hk, hl, hv, hbw⟩ := hrel
    have HN : Hid (N = l.length) := hN
    have HL : Hid (l ++ salvF k i (b.drop i) = salv b) := hl
    have HK : Hid (b.length - i ≤ k) := hk
    clear hN hl hk
    by_cases hlt : i < (str b).size
    · have hi2 : i ≤ b.length := by rw [← HZ.out]; omega
      go_wp2_with fail
      refine (frameAt_any b i _ HB.out hi2).mono ?_
      rintro e w1 ⟨rfl, hb1⟩
      have hv1 := hv.keep hb1
      have hbw1 := hbw.trans (hb1.mono hbw.size)
      have hz1 := hbw1.size
      clear hv hbw hb1
      obtain ⟨k, rfl⟩ : ∃ k', k = k' + 1 := ⟨k - 1, by have := HK.out; have := HZ.out; omega⟩
      have hne : b.drop i ≠ [] := by
        intro h; have := congrArg List.length h; simp at this; have := HZ.out; omega
      cases hst : standRd (b.drop i) with
      | none =>
        have HS : Hid (l ++ salvF k (i + 1) (b.drop (i + 1)) = salv b) := by
          show _ = _; rw [← HL.out, salvF_none hne hst, List.drop_drop]
        simp only [standV]
        clear hst hne HL
        go_wp2_with fail
        go_roundw
        case rel => exact ⟨i + 1, ad, cap, N, k, l, by omega, by go_num, rfl, HN.out, by omega, by have := HK.out; omega, HS.out, hv1.keep ((Below.refl _ _).alloc (Nat.le_refl _) _), hbw1.alloc hz1 _⟩
        case measure => have := HZ.out; simp [intOf]; omega
      | some p =>
        obtain ⟨f, n⟩ := p
        have hn := standRd_le hst
        simp at hn
        have HS : Hid ((l ++ [f.putI i]) ++ salvF k (i + n) (b.drop (i + n)) = salv b) := by
          show _ = _; rw [← HL.out, salvF_some hne hst, List.drop_drop]; simp
        have hnl : i + n ≤ (str b).size := by have := HZ.out; omega
        have hn7 : 7 < n := by omega
        simp only [standV]
        clear hst hne HL hn
        have hn0 : ((n : Int) == 0) = false := by rw [beq_eq_false_iff_ne]; omega
        have hvx : ∀ o1 o2, Vec ((w1.alloc o1).alloc o2) w.heap.size 64 9 ad N cap (fcells l) := fun o1 o2 => hv1.keep (((Below.refl _ w1).alloc (Nat.le_refl _) _).alloc (by simp) _)
        have HX : Hid (∀ o1 o2, Vec ((w1.alloc o1).alloc o2) w.heap.size 64 9 ad N cap (fcells l)) := hvx
        clear hvx
        go_wp2_with (at_builtin; refine wpList_push (by rfl) _ _ 57 (by rfl) w.heap.size 64 9 80 (.agg #[.int .i64 0, .int .i64 0, .int .i64 0, .int .i64 0, .int .i64 0, .int .i64 0, .int .i64 0, .bool false, .string ⟨#[]⟩]) Try.underlying57 (by kernel_rfl) rfl (by decide) ad N cap _ (by rfl) (HX.out _ _) _ _ (f.putI i).cells (by rfl) rfl ?_ ?_ ?_ ?_ ?_ ?_; exact new_cells2 _ _ _ _; exact onesF _; (omega); (omega); (simp; omega); intro ad' cap' w' hv' hb' hs')
        have h2 : Below w.heap.size w w' := ((hbw1.alloc hz1 _).alloc (by simp; omega) _).trans hb'
        have hv2 : Vec w' w.heap.size 64 9 ad' (N + 1) cap' (fcells (l ++ [f.putI i])) := by
          rw [fcells_append, fcells_one]; exact hv'
        go_roundw
        case rel => exact ⟨i + n, ad', cap', N + 1, k, l ++ [f.putI i], by omega, by go_num, rfl, by have := HN.out; simp; omega, by omega, by have := HK.out; omega, HS.out, hv2, h2⟩
        case measure => have := HZ.out; simp [intOf]; omega
    · have he : b.drop i = [] := List.drop_of_length_le (by rw [← HZ.out]; omega)
      have HS : Hid (l = salv b) := by show _ = _; rw [← HL.out, he, salvF_nil]; simp
      go_wp2_with fail
      go_ret
      exact ⟨ad, cap, N, rfl, by rw [← HS.out]; exact HN.out, by rw [← HS.out]; exact hv, hbw⟩

set_option maxRecDepth 100000 in
set_option maxHeartbeats 4000000 in
theorem psalvage_any (b : List UInt8) (w : World) (hb : b.length ≤ 1099511627776) :
    Calls Try.prog 34 #[.string (str b)] w fun e w' => ∃ ad cap N, e = .returned (.slice ad N cap) ∧ N = (salv b).length ∧ Vec w' w.heap.size 64 9 ad N cap (fcells (salv b)) ∧ Below w.heap.size w w' := by
  go_enter Try.func34, Try.ntmps34
  go_wp2_with fail
  refine (bsalvage_any b _ hb).mono ?_
  rintro e w' ⟨ad, cap, N, rfl, rfl, h⟩
  go_wp2_with fail
  go_ret
  exact ⟨ad, cap, _, rfl, rfl, h⟩
end Go.Proofs.Ytdjpkgaicmklmaa

/- What was found, as it lies in memory; how much it is at most. -/
namespace Go.Proofs.Ytdjpkgaicmklmaa
open Go.RowKit

theorem Lies.found {w : World} {a : Option Addr} {n : Nat} {c : Nat → Fd} (h : Lies w a n 9 (fun i => (c i).cells)) (cap : Nat) {k : Nat} (hk : k < n) :
    ∃ b o, b < w.heap.size ∧ (∀ w', (Instr.indexAt 57 (.slice a n cap) (.int .i64 (k : Int))).run Try.prog w' = .ok (.pointer (some ⟨b, o, none⟩)) w') ∧
      w.cell? ⟨b, o, none⟩ = some (.int .i64 (c k).at_) ∧ w.cell? ⟨b, o + 1, none⟩ = some (.int .i64 (c k).kind) ∧ w.cell? ⟨b, o + 2, none⟩ = some (.int .i64 (c k).seq) ∧
      w.cell? ⟨b, o + 3, none⟩ = some (.int .i64 (c k).base) ∧ w.cell? ⟨b, o + 4, none⟩ = some (.int .i64 (c k).id) ∧ w.cell? ⟨b, o + 5, none⟩ = some (.int .i64 (c k).site) ∧
      w.cell? ⟨b, o + 6, none⟩ = some (.int .i64 (c k).count) ∧ w.cell? ⟨b, o + 7, none⟩ = some (.bool (c k).gone) ∧ w.cell? ⟨b, o + 8, none⟩ = some (.string (c k).text) := by
  obtain ⟨b, o, hb, hi, hc⟩ := h.at cap (P := Try.prog) (t := 57) (by kernel_rfl) (by kernel_rfl) hk
  exact ⟨b, o, hb, hi, hc 0 _ (by omega) rfl, hc 1 _ (by omega) rfl, hc 2 _ (by omega) rfl, hc 3 _ (by omega) rfl, hc 4 _ (by omega) rfl, hc 5 _ (by omega) rfl, hc 6 _ (by omega) rfl, hc 7 _ (by omega) rfl, hc 8 _ (by omega) rfl⟩
theorem fvec_lies {w : World} {B : Nat} {ad : Option Addr} {n cap : Nat} {L : List Fd} (h : Vec w B 64 9 ad n cap (fcells L)) (hn : n = L.length) : Lies w ad n 9 (fun i => (L.getD i fd0).cells) := by
  refine Vec.lies (rows := L.map Fd.cells) h ?_ (by simp [hn]) _ ?_
  · intro r hr; obtain ⟨f, _, rfl⟩ := List.mem_map.1 hr; rfl
  · intro i hi; subst hn; simp [List.getD, hi]
theorem salvF_length : ∀ (k p : Nat) (s : List UInt8), (salvF k p s).length ≤ k
  | 0, _, _ => by simp [salvF]
  | k + 1, p, s => by
    simp only [salvF]
    split
    · simp
    · split
      · rename_i f n _; have := salvF_length k (p + n) (s.drop n); simp; omega
      · have := salvF_length k (p + 1) (s.drop 1); omega
theorem salv_length (b : List UInt8) : (salv b).length ≤ b.length := salvF_length _ _ _
end Go.Proofs.Ytdjpkgaicmklmaa

/- sameFound, and what own.kept asks: walked. -/
namespace Go.Proofs.Ytdjpkgaicmklmaa
open Go.RowKit

set_option maxRecDepth 100000 in
set_option maxHeartbeats 4000000 in
theorem sameFound_any (N : Nat) (F : Nat → Fd) (a b : Option Addr) (ca cb : Nat) (w : World) (hA : Lies w a N 9 (fun i => (F i).cells)) (hB : Lies w b N 9 (fun i => (F i).cells)) (hN : N ≤ 9223372036854775807) :
    Calls Try.prog 50 #[.slice a N ca, .slice b N cb] w fun e w' => e = .returned (.bool true) ∧ Below w.heap.size w w' := by
  go_enter Try.func50, Try.ntmps50
  go_wp2
  go_loopw [5] (fun u wr => ∃ j : Nat, j ≤ N ∧ u = .int .i64 j ∧ Below w.heap.size w wr) (fun u _ => N - (intOf u).toNat)
  case atStart => exact ⟨0, Nat.zero_le _, rfl, Below.refl _ _⟩
  case round =>
    obtain ⟨j, hj, rfl, hbr⟩ := hrel
    by_cases hlt : j < N
    · obtain ⟨b, o, hbl, hix, c0, c1, c2, c3, c4, c5, c6, c7, c8⟩ := (hA.below hbr).found ca hlt
      obtain ⟨b', o', hbl', hix', d0, d1, d2, d3, d4, d5, d6, d7, d8⟩ := (hB.below hbr).found cb hlt
      go_wp2
      go_quiet (fail)
      go_wp2
      go_roundw
      case rel => exact ⟨j + 1, by omega, by go_num, below_drewN hbr _⟩
      case measure => simp [intOf]; omega
    · go_wp2
      go_ret
      exact ⟨rfl, hbr⟩

theorem books_lies {Sh : List Value → Prop} {w : World} {B e eb m : Nat} {ad : Option Addr} {cap : Nat} {L : List Bk} (h : Books Sh w B e eb m ad cap L) : Lies w ad L.length (m + 1) (fun i => (L.getD i ⟨none, 0, 0, []⟩).cells) := by
  refine Vec.lies (rows := L.map Bk.cells) h.list ?_ (by simp) _ ?_
  · intro r hr; obtain ⟨x, hx, rfl⟩ := List.mem_map.1 hr; simp [(h.each x hx).len]
  · intro i hi; simp [List.getD, hi]
theorem rep_lies {w : World} {B e m : Nat} {ad : Option Addr} {n cap : Nat} {mk : List Value} (h : Vec w B e m ad n cap (rep n mk)) (hm : mk.length = m) : Lies w ad n m (fun _ => mk) := by
  refine Vec.lies (rows := List.replicate n mk) h ?_ (by simp) _ ?_
  · intro r hr; rw [(List.mem_replicate.1 hr).2]; exact hm
  · intro i hi; simp [List.getD, hi]

set_option maxRecDepth 100000 in
set_option maxHeartbeats 4000000 in
theorem rkept_nil (w : World) (go : Nat) (n : Int) (v4 v5 : Value) (hO : Bx w go 41 [.int .i64 n, .slice none 0 0, .slice none 0 0, .slice none 0 0, v4, v5]) :
    Calls Try.prog 94 #[.pointer (some ⟨go, 0, none⟩)] w fun e w' => e = .returned (.bool true) ∧ w' = w := by
  have c1 := hO.cell 1
  have c2 := hO.cell 2
  have c3 := hO.cell 3
  dsimp only [List.getElem?_cons_zero, List.getElem?_cons_succ] at c1 c2 c3
  go_enter Try.func94, Try.ntmps94
  go_wp2_with fail
  go_loopw [3, 4] (fun u _ wr => u = .int .i64 0 ∧ wr = w) (fun _ _ _ => 0)
  case atStart => exact ⟨rfl, rfl⟩
  case round =>
    obtain ⟨rfl, hw⟩ := hrel
    subst hw
    go_wp2_with fail
    go_loopw [5, 6] (fun u _ wr2 => u = .int .i64 0 ∧ wr2 = wr) (fun _ _ _ => 0)
    case atStart => exact ⟨rfl, rfl⟩
    case round =>
      obtain ⟨rfl, hw⟩ := hrel
      subst hw
      go_wp2_with fail
      go_loopw [7, 8] (fun u _ wr2 => u = .int .i64 0 ∧ wr2 = wr) (fun _ _ _ => 0)
      case atStart => exact ⟨rfl, rfl⟩
      case round =>
        obtain ⟨rfl, hw⟩ := hrel
        subst hw
        go_wp2_with fail
        go_ret
        exact ⟨rfl, by first | rfl | trivial⟩
end Go.Proofs.Ytdjpkgaicmklmaa

/- Splits: called with any bytes, up to very many, and any size, it answers true. -/
namespace Go.Proofs.Ytdjpkgaicmklmaa
open Go.RowKit
attribute [local go_sem] str_beq

set_option maxRecDepth 100000 in
set_option maxHeartbeats 4000000 in
theorem sameStrings_any (N : Nat) (F : Nat → List UInt8) (a b : Option Addr) (ca cb : Nat) (w : World) (hA : Lies w a N 1 (fun i => [.string (str (F i))])) (hB : Lies w b N 1 (fun i => [.string (str (F i))])) (hN : N ≤ 9223372036854775807) :
    Calls Try.prog 54 #[.slice a N ca, .slice b N cb] w fun e w' => e = .returned (.bool true) ∧ Below w.heap.size w w' := by
  go_enter Try.func54, Try.ntmps54
  go_wp2
  go_loopw [5] (fun u wr => ∃ j : Nat, j ≤ N ∧ u = .int .i64 j ∧ Below w.heap.size w wr) (fun u _ => N - (intOf u).toNat)
  case atStart => exact ⟨0, Nat.zero_le _, rfl, Below.refl _ _⟩
  case round =>
    obtain ⟨j, hj, rfl, hbr⟩ := hrel
    by_cases hlt : j < N
    · obtain ⟨b, o, hbl, hix, hc⟩ := (hA.below hbr).at ca (P := Try.prog) (t := 46) (by kernel_rfl) (by kernel_rfl) hlt
      obtain ⟨b', o', hbl', hix', hd⟩ := (hB.below hbr).at cb (P := Try.prog) (t := 46) (by kernel_rfl) (by kernel_rfl) hlt
      have c0 : wr.cell? ⟨b, o, none⟩ = some (.string (str (F j))) := hc 0 _ (by omega) rfl
      have d0 : wr.cell? ⟨b', o', none⟩ = some (.string (str (F j))) := hd 0 _ (by omega) rfl
      clear hc hd
      go_wp2
      go_quiet (fail)
      go_wp2
      go_roundw
      case rel => exact ⟨j + 1, by omega, by go_num, below_drewN hbr _⟩
      case measure => simp [intOf]; omega
    · go_wp2
      go_ret
      exact ⟨rfl, hbr⟩

set_option maxRecDepth 100000 in
set_option maxHeartbeats 4000000 in
theorem keptT_any (w : World) (B go : Nat) (n : Int) (v1 v2 v3 : Value) (a4 : Option Addr) (c4 : Nat) (L : List Bk) (hO : Bx w go 41 [.int .i64 n, v1, v2, v3, .slice none 0 0, .slice a4 L.length c4]) (hK : Books ShSt w B 9 116 1 a4 c4 L) (hL : L.length ≤ 1004)
    (hR : Hid (∀ w', Below w.heap.size w w' → Calls Try.prog 94 #[.pointer (some ⟨go, 0, none⟩)] w' fun e w'' => e = .returned (.bool true) ∧ Below w'.heap.size w' w'')) :
    Calls Try.prog 46 #[.pointer (some ⟨go, 0, none⟩)] w fun e w' => e = .returned (.bool true) ∧ Below w.heap.size w w' := by
  have c5 := hO.cell 4
  dsimp only [List.getElem?_cons_zero, List.getElem?_cons_succ] at c5
  go_enter Try.func46, Try.ntmps46
  go_wp2_with fail
  go_loopw [3, 4] (fun u _ wr2 => u = .int .i64 0 ∧ wr2 = w) (fun _ _ _ => 0)
  case atStart => exact ⟨rfl, rfl⟩
  case round =>
    obtain ⟨rfl, hw⟩ := hrel
    subst hw
    go_wp2_with fail
    go_loopw [5, 6] (fun u _ w2 => ∃ i : Nat, i ≤ L.length ∧ u = .int .i64 i ∧ Below wr.heap.size wr w2) (fun u _ _ => L.length - (intOf u).toNat)
    case atStart => exact ⟨0, Nat.zero_le _, rfl, Below.refl _ _⟩
    case round =>
      obtain ⟨i, hi, rfl, hbr⟩ := hrel
      have hOr := hO.below hbr hO.lt
      have hKr := hK.keep hbr
      have cf := hOr.cell 5
      dsimp only [List.getElem?_cons_zero, List.getElem?_cons_succ] at cf
      by_cases hlt : i < L.length
      · have hx := hKr.each L[i] (List.getElem_mem hlt)
        obtain ⟨b, o, hbl, hix, hc⟩ := (books_lies hKr).at c4 (P := Try.prog) (t := 39) (by kernel_rfl) (by kernel_rfl) hlt
        obtain ⟨f, hf⟩ := hx.shape
        rw [show L.getD i ⟨none, 0, 0, []⟩ = L[i] by simp [List.getD, hlt]] at hc
        have s0 : wr.cell? ⟨b, o, none⟩ = some (.slice (L[i]).ad (L[i]).n (L[i]).cap) := hc 0 _ (by omega) rfl
        have hq : Lies wr (L[i]).ad (L[i]).n 1 (fun _ => [.string (str f)]) := rep_lies (by have := hx.vec; rw [hf] at this; exact this) rfl
        have few : (L[i]).n ≤ 1099511627780 := hx.few
        have s1 : wr.cell? ⟨b, o + 1, none⟩ = some (.string (str f)) := hc 1 _ (by omega) (by rw [Bk.cells, List.getElem?_cons_succ, hf]; rfl)
        clear hx hc hf
        generalize L[i] = X at *
        generalize hwr : wr = w5 at *
        clear hwr
        go_wp2_with fail
        go_loopw [6] (fun u wr2 => ∃ k : Nat, k ≤ X.n ∧ u = .int .i64 k ∧ Below w5.heap.size w5 wr2) (fun u _ => X.n - (intOf u).toNat)
        case atStart => exact ⟨0, Nat.zero_le _, rfl, Below.refl _ _⟩
        case round =>
          obtain ⟨k, hk, rfl, hbr2⟩ := hrel
          have cf2 := (hOr.below hbr2 hOr.lt).cell 5
          dsimp only [List.getElem?_cons_zero, List.getElem?_cons_succ] at cf2
          have s2 : wr.cell? ⟨b, o, none⟩ = some (.slice X.ad X.n X.cap) := (hbr2.cell (p := ⟨b, o, none⟩) hbl).trans s0
          have s3 : wr.cell? ⟨b, o + 1, none⟩ = some (.string (str f)) := (hbr2.cell (p := ⟨b, o + 1, none⟩) hbl).trans s1
          by_cases hlt2 : k < X.n
          · obtain ⟨b', o', hbl', hix', hd⟩ := (hq.below hbr2).at X.cap (P := Try.prog) (t := 46) (by kernel_rfl) (by kernel_rfl) hlt2
            have d0 : wr.cell? ⟨b', o', none⟩ = some (.string (str f)) := hd 0 _ (by omega) rfl
            clear hd
            go_wp2
            go_quiet (fail)
            go_wp2
            go_roundw
            case rel => exact ⟨k + 1, by omega, by go_num, below_drewN hbr2 _⟩
            case measure => simp [intOf]; omega
          · go_wp2
            go_roundw
            case rel => exact ⟨i + 1, by omega, by go_num, hbr.trans (hbr2.mono hbr.size)⟩
            case measure => simp [intOf]; omega
      · generalize hwr : wr = w5 at *
        clear hwr
        go_wp2_with fail
        refine (hR.out _ hbr).mono ?_
        rintro e w6 ⟨rfl, hb6⟩
        go_wp2_with fail
        go_ret
        exact ⟨rfl, hbr.trans (hb6.mono hbr.size)⟩

/-- The owner's variable and his books of strings. -/
structure OwnT (w : World) (B go : Nat) (n : Int) (a4 : Option Addr) (c4 : Nat) (L : List Bk) : Prop where
  o : Bx w go 41 [.int .i64 n, .slice none 0 0, .slice none 0 0, .slice none 0 0, .slice none 0 0, .slice a4 L.length c4]
  b : Books ShSt w B 9 116 1 a4 c4 L
theorem OwnT.keep {w w' : World} {B go : Nat} {n : Int} {a4 : Option Addr} {c4 : Nat} {L : List Bk} (h : OwnT w B go n a4 c4 L) (hb : Below w.heap.size w w') : OwnT w' B go n a4 c4 L := ⟨h.o.below hb h.o.lt, h.b.keep hb⟩
theorem OwnT.old {w : World} {B go : Nat} {n : Int} {a4 : Option Addr} {c4 : Nat} {L : List Bk} (h : OwnT w B go n a4 c4 L) : ∀ x, x ∈ L → ∀ b, x.ad = some b → b.block < w.heap.size := by
  intro x hx b hb
  obtain ⟨_, cur, hc⟩ := (h.b.each x hx).vec.typed b.block (by rw [hb]; rfl)
  exact (Array.getElem?_eq_some_iff.1 hc).1

theorem splitL_length (b : List UInt8) (size : Int) : (splitL b size).length ≤ 256 := by
  unfold splitL
  split
  · rename_i h
    rw [vols_len]
    exact Nat.le_of_lt (cnt_small _ _ (by have := h.1; omega) h.2.2)
  · simp

set_option maxRecDepth 100000 in
set_option maxHeartbeats 4000000 in
theorem split_any (s : List UInt8) (size : Int) (w : World) (B go : Nat) (n : Int) (a4 : Option Addr) (c4 : Nat) (L : List Bk) (hO : OwnT w B go n a4 c4 L) (hs : s.length ≤ 9223372036854775807) (hL : L.length ≤ 900) (hB : B ≤ go) (hn0 : 0 ≤ n) (hn1 : n ≤ 900) (hBw : B ≤ w.heap.size) :
    Calls Try.prog 23 #[.string (str s), .int .i64 size, .pointer (some ⟨go, 0, none⟩)] w fun e w' => (e = .returned (.bool true) ∧ ∃ a5 c5 L5, L5.length = L.length + 4 ∧ OwnT w' B go (n + 1) a5 c5 L5) ∧ Below B w w' := by
  have HO : Hid (OwnT w B go n a4 c4 L) := hO
  have HS : Hid (s.length ≤ 9223372036854775807) := hs
  clear hO hs
  go_enter Try.func23, Try.ntmps23
  go_wp2_with fail
  refine (psplit_any s size _ HS.out).mono ?_
  rintro e w1 ⟨ad, cap, N, rfl, h1⟩
  have H1 : Hid (N = (splitL s size).length ∧ Vec w1 w.heap.size 9 1 ad N cap (strs (splitL s size)) ∧ Below w.heap.size w w1) := h1
  clear h1
  go_wp2_with fail
  refine (rsplit_any s size _ HS.out).mono ?_
  rintro e w2 ⟨ad2, cap2, N2, rfl, h2⟩
  obtain rfl : N = N2 := by rw [H1.out.1, h2.1]
  have H2 : Hid (N = (splitL s size).length ∧ Vec w2 w1.heap.size 9 1 ad2 N cap2 (strs (splitL s size)) ∧ Below w1.heap.size w1 w2) := h2
  clear h2
  have hNb : N ≤ 256 := by have := splitL_length s size; have := H1.out.1; omega
  generalize splitE s size = E at *
  go_wp2_with fail
  refine (sameStrings_any N (fun i => (splitL s size).getD i []) ad ad2 cap cap2 _ (strs_lies (H1.out.2.1.keep H2.out.2.2) H1.out.1) (strs_lies H2.out.2.1 H1.out.1) (by omega)).mono ?_
  rintro e w3 ⟨rfl, hb3⟩
  have H3 : Hid (Below w2.heap.size w2 w3) := hb3
  clear hb3
  have H13 : Hid (Below w1.heap.size w1 w3) := H2.out.2.2.trans (H3.out.mono H2.out.2.2.size)
  have HW : Hid (Below w.heap.size w w3) := H1.out.2.2.trans (H13.out.mono H1.out.2.2.size)
  go_wp2_with fail
  refine (strings_any _ B w.heap.size go n _ _ _ _ ad N cap _ a4 c4 L (HO.out.keep HW.out).o (HO.out.keep HW.out).b HO.out.old (H1.out.2.1.keep H13.out) (by omega) (by omega) hB hBw hn0 (by omega) (Nat.le_trans hBw HW.out.size) HW.out.size).mono ?_
  rintro e w4 ⟨⟨v, rfl⟩, ⟨a5, c5, L5, hL5, h5⟩, hb4, -⟩
  have H5 : Hid (Bx w4 go 41 [.int .i64 (n + 1), .slice none 0 0, .slice none 0 0, .slice none 0 0, .slice none 0 0, .slice a5 L5.length c5] ∧ Books ShSt w4 B 9 116 1 a5 c5 L5) := h5
  have HL5 : Hid (L5.length = L.length + 4) := hL5
  have HB5 : Hid (Below B w w4) := (HW.out.mono hBw).trans hb4
  clear h5 hL5 hb4
  go_wp2_with fail
  refine (keptT_any _ B go (n + 1) _ _ _ a5 c5 L5 H5.out.1 H5.out.2 (by have := HL5.out; omega) (fun w' hw' => (rkept_nil w' go (n + 1) _ _ (H5.out.1.below hw' H5.out.1.lt)).mono fun e w'' h => ⟨h.1, by rw [h.2]; exact Below.refl _ _⟩)).mono ?_
  rintro e w6 ⟨rfl, hb6⟩
  have H6 : Hid (Below w4.heap.size w4 w6) := hb6
  clear hb6
  go_wp2_with fail
  go_ret
  exact ⟨⟨rfl, a5, c5, L5, HL5.out, ⟨H5.out.1.below H6.out H5.out.1.lt, H5.out.2.keep H6.out⟩⟩, HB5.out.trans (H6.out.mono (Nat.le_trans hBw HB5.out.size))⟩

set_option maxRecDepth 100000 in
set_option maxHeartbeats 4000000 in
theorem splits_any (s : List UInt8) (size : Int) (w : World) (hs : s.length ≤ 9223372036854775807) :
    Calls Try.prog 8 #[.string (str s), .int .i64 size] w fun e w' => e = .returned (.bool true) ∧ Below w.heap.size w w' := by
  obtain ⟨hO, hW, hB⟩ := one_box w 41 #[.int .i64 0, .slice none 0 0, .slice none 0 0, .slice none 0 0, .slice none 0 0, .slice none 0 0]
  have h0 : OwnT (w.alloc (.cells #[.int .i64 0, .slice none 0 0, .slice none 0 0, .slice none 0 0, .slice none 0 0, .slice none 0 0] 41)) w.heap.size w.heap.size 0 none 0 [] := ⟨hO, Books.nil _ _ _ _ _⟩
  have H0 : Hid (OwnT (w.alloc (.cells #[.int .i64 0, .slice none 0 0, .slice none 0 0, .slice none 0 0, .slice none 0 0, .slice none 0 0] 41)) w.heap.size w.heap.size 0 none 0 []) := h0
  clear h0 hO
  go_enter Try.func8, Try.ntmps8
  go_wp2_with fail
  refine (split_any s size _ w.heap.size w.heap.size 0 none 0 [] H0.out hs (by simp) (Nat.le_refl _) (by omega) (by omega) hB.size).mono ?_
  rintro e w1 ⟨⟨rfl, a5, c5, L5, hL5, hO5⟩, hb1⟩
  have hb2 := hB.trans hb1
  have hL6 : L5.length ≤ 900 := by simp at hL5; omega
  clear hL5
  go_wp2_with fail
  refine (split_any s size _ w.heap.size w.heap.size (0 + 1) a5 c5 L5 hO5 hs hL6 (Nat.le_refl _) (by omega) (by omega) hb2.size).mono ?_
  rintro e w2 ⟨⟨rfl, -⟩, hb3⟩
  go_wp2_with fail
  go_ret
  exact ⟨rfl, hb2.trans hb3⟩
end Go.Proofs.Ytdjpkgaicmklmaa

/- A replica that comes in, opened: its reading as data gives its rows. -/
namespace Go.Proofs.Ytdjpkgaicmklmaa
open Go.ChangeShapes Go.WideShapes Go.ChangeAt Go.RowKit Go.Joins Go.Deep

section
variable {H : Type} {enc : TypeId × Value → H} {w : World} {base : Nat} {spare : Nat → Bool} {held : Bool}

theorem Try.cellsInt : Try.prog.cellsOf 3 = 1 := by kernel_rfl
theorem Try.cellsBool : Try.prog.cellsOf 4 = 1 := by kernel_rfl
theorem Try.cellsString : Try.prog.cellsOf 9 = 1 := by kernel_rfl
theorem Try.cellsClock : Try.prog.cellsOf 67 = 2 := by kernel_rfl
theorem Try.cellsCard : Try.prog.cellsOf 69 = 5 := by kernel_rfl
theorem Try.cellsEdit : Try.prog.cellsOf 71 = 2 := by kernel_rfl

theorem list2 {α : Type} {l : List α} (h : l.length = 2) : ∃ a b, l = [a, b] := by
  match l, h with
  | [a, b], _ => exact ⟨a, b, rfl⟩
theorem list5 {α : Type} {l : List α} (h : l.length = 5) : ∃ a b c d e, l = [a, b, c, d, e] := by
  match l, h with
  | [a, b, c, d, e], _ => exact ⟨a, b, c, d, e, rfl⟩

theorem read_clock {n : Nat} {cs : List Value} {x : DataW H × List MemPlace} (h : DataW.trod enc Try.prog w base spare held n 67 cs = some x) : ∃ c : Ck, cs = c.cells := by
  obtain ⟨xs, k, _, _, hl, hlen, hf⟩ := DataW.trod_struct Try.underlying67 h
  rw [Try.cellsClock] at hl
  obtain ⟨c0, c1, rfl⟩ := list2 hl
  obtain ⟨y0, y1, rfl⟩ := list2 (show xs.length = 2 from hlen)
  have g0 := hf 0 _ rfl
  have g1 := hf 1 _ rfl
  simp [Try.cellsInt] at g0 g1
  obtain ⟨n0, e0, _⟩ := DataW.trod_int Try.underlying3 g0
  obtain ⟨n1, e1, _⟩ := DataW.trod_int Try.underlying3 g1
  simp at e0 e1
  subst e0 e1
  exact ⟨⟨n0, n1⟩, rfl⟩

theorem read_edit {n : Nat} {cs : List Value} {x : DataW H × List MemPlace} (h : DataW.trod enc Try.prog w base spare held n 71 cs = some x) : ∃ c : Ed, cs = c.cells := by
  obtain ⟨xs, k, _, _, hl, hlen, hf⟩ := DataW.trod_struct Try.underlying71 h
  rw [Try.cellsEdit] at hl
  obtain ⟨c0, c1, rfl⟩ := list2 hl
  obtain ⟨y0, y1, rfl⟩ := list2 (show xs.length = 2 from hlen)
  have g0 := hf 0 _ rfl
  have g1 := hf 1 _ rfl
  simp [Try.cellsInt, Try.cellsString] at g0 g1
  obtain ⟨n0, e0, _⟩ := DataW.trod_int Try.underlying3 g0
  obtain ⟨n1, e1, _⟩ := DataW.trod_string Try.underlying9 g1
  simp at e0 e1
  subst e0 e1
  exact ⟨⟨n0, n1⟩, rfl⟩

theorem read_card {n : Nat} {cs : List Value} {x : DataW H × List MemPlace} (h : DataW.trod enc Try.prog w base spare held n 69 cs = some x) : ∃ c : Cd, cs = c.cells := by
  obtain ⟨xs, k, _, _, hl, hlen, hf⟩ := DataW.trod_struct Try.underlying69 h
  rw [Try.cellsCard] at hl
  obtain ⟨c0, c1, c2, c3, c4, rfl⟩ := list5 hl
  obtain ⟨y0, y1, y2, y3, y4, rfl⟩ := list5 (show xs.length = 5 from hlen)
  have g0 := hf 0 _ rfl
  have g1 := hf 1 _ rfl
  have g2 := hf 2 _ rfl
  have g3 := hf 3 _ rfl
  have g4 := hf 4 _ rfl
  simp [Try.cellsInt, Try.cellsString, Try.cellsBool] at g0 g1 g2 g3 g4
  obtain ⟨n0, e0, _⟩ := DataW.trod_int Try.underlying3 g0
  obtain ⟨n1, e1, _⟩ := DataW.trod_int Try.underlying3 g1
  obtain ⟨n2, e2, _⟩ := DataW.trod_int Try.underlying3 g2
  obtain ⟨n3, e3, _⟩ := DataW.trod_bool Try.underlying4 g3
  obtain ⟨n4, e4, _⟩ := DataW.trod_string Try.underlying9 g4
  simp at e0 e1 e2 e3 e4
  subst e0 e1 e2 e3 e4
  exact ⟨⟨n0, n1, n2, n3, n4⟩, rfl⟩

theorem addr_plus (b off j : Nat) : (⟨b, off, none⟩ : Addr).add j = ⟨b, off + j, none⟩ := by
  unfold Addr.add
  by_cases h : j = 0 <;> simp [h]

/-- A slice of records that comes in. -/
theorem read_rows {α : Type} [Inhabited α] (cells : α → List Value) (m : Nat) {t e : TypeId} {fuel : Nat} {v : Value} {x : DataW H × List MemPlace} (ht : Try.prog.underlying t = some (.slice e)) (hc : Try.prog.cellsOf e = m) (h0 : 0 < m)
    (hr : ∀ (n : Nat) (cs : List Value) (y : DataW H × List MemPlace), DataW.trod enc Try.prog w 0 (fun _ => true) held n e cs = some y → ∃ c : α, cs = cells c)
    (h : DataW.trod enc Try.prog w 0 (fun _ => true) held fuel t [v] = some x) :
    ∃ (a : Option Addr) (n k : Nat) (f : Nat → α), v = .slice a n k ∧ Lies w a n m (fun i => cells (f i)) ∧ n ≤ k ∧ ((x.1 = .nil ∧ n = 0) ∨ ∃ el sp : List (DataW H), x.1 = .slice el sp ∧ el.length + sp.length = k) := by
  rcases open_slice ht h with ⟨hcs, hx⟩ | ⟨a, len, cap, mm, n, D, Pl, hcs, _, hl, hm, hmm, hx, hel⟩
  · simp at hcs
    exact ⟨none, 0, 0, fun _ => default, hcs, Or.inl rfl, Nat.le_refl _, Or.inl ⟨by rw [hx], rfl⟩⟩
  · simp at hcs
    simp at hmm
    subst hmm
    rw [hc] at hel
    have hall : ∀ i, i < mm → ∃ c : α, w.cells? 0 (a.add (i * m)) m = some (cells c) := fun i hi => by
      obtain ⟨cs', h1, h2⟩ := hel i hi
      obtain ⟨c, rfl⟩ := hr _ _ _ h2
      exact ⟨c, h1⟩
    obtain ⟨f, hf⟩ := choose_lt (α := α) (p := fun i c => w.cells? 0 (a.add (i * m)) m = some (cells c)) hall
    refine ⟨some a, len, mm, f, hcs, ?_, hl, Or.inr ⟨_, _, by rw [hx], by simp; omega⟩⟩
    by_cases hz : len = 0
    · exact Or.inl hz
    · obtain ⟨b, off, spot⟩ := a
      obtain ⟨_, hlen0, hc0⟩ := World.cells?_some (hf 0 (by omega))
      have hcell : w.cell? ((Addr.add ⟨b, off, spot⟩ (0 * m)).add 0) = (cells (f 0))[0]? := hc0 0 h0
      rw [List.getElem?_eq_getElem (by omega)] at hcell
      have hspot : spot = none := by simpa [Addr.add] using World.cell?_spot hcell
      subst hspot
      have hblk : b < w.heap.size := by
        simp only [Nat.zero_mul, addr_plus, Nat.add_zero] at hcell
        unfold World.cell? at hcell
        rcases Nat.lt_or_ge b w.heap.size with h | h
        · exact h
        · simp [Array.getElem?_eq_none h] at hcell
      refine Or.inr ⟨b, off, rfl, hblk, fun i hi j v hj hv => ?_⟩
      obtain ⟨_, _, hci⟩ := World.cells?_some (hf i (by omega))
      have := hci j hj
      rw [addr_plus, addr_plus] at this
      rw [this, hv]

theorem Try.bytesClock : Try.prog.bytesOf 67 = 16 := by kernel_rfl
theorem Try.bytesCard : Try.prog.bytesOf 69 = 48 := by kernel_rfl
theorem Try.bytesEdit : Try.prog.bytesOf 71 = 24 := by kernel_rfl

/-- The bytes of a slice that came in. -/
theorem weigh {t e : TypeId} {d : DataW H} {n k b : Nat} (ht : Try.prog.underlying t = some (.slice e)) (hb : Try.prog.bytesOf e = b) (hn : n ≤ k)
    (hx : (d = .nil ∧ n = 0) ∨ ∃ el sp : List (DataW H), d = .slice el sp ∧ el.length + sp.length = k) (hw : ∀ q, q ∈ d.weights Try.prog t → q ≤ reachBytes) : n * b ≤ reachBytes := by
  rcases hx with ⟨_, rfl⟩ | ⟨el, sp, rfl, rfl⟩
  · simp
  · have := hw ((el.length + sp.length) * Try.prog.bytesOf e) (by simp [DataW.weights, ht])
    rw [hb] at this
    exact Nat.le_trans (Nat.mul_le_mul_right _ hn) this

set_option maxRecDepth 100000 in
/-- A replica that comes in. -/
theorem open_rep {r : Reach} {b0 : Nat} {v : Value} {d : DataW H} {p : List MemPlace} (hv : Value.okWide Try.prog w r b0 26 v)
    (h : DataW.Trod enc Try.prog w 0 (fun _ => true) held 26 v d p) (hw : ∀ q, q ∈ d.weights Try.prog 26 → q ≤ reachBytes) :
    ∃ (R : Rep) (a1 a2 a3 : Option Addr) (k1 k2 k3 : Nat), v = repV R a1 a2 a3 k1 k2 k3 ∧ Has w R a1 a2 a3 := by
  obtain ⟨v0, v1, v2, y0, y1, y2, n, rfl, rfl, _, h0, h1, h2⟩ := open_agg3 Try.underlying26 (by kernel_rfl) (by kernel_rfl) hv h
  have : Inhabited Ck := ⟨⟨0, 0⟩⟩
  have : Inhabited Cd := ⟨⟨0, 0, 0, false, ⟨#[]⟩⟩⟩
  have : Inhabited Ed := ⟨⟨0, ⟨#[]⟩⟩⟩
  obtain ⟨a1, n1, k1, c, rfl, l1, m1, x1⟩ := read_rows Ck.cells 2 Try.underlying22 Try.cellsClock (by omega) (fun _ _ _ hh => read_clock hh) h0
  obtain ⟨a2, n2, k2, dd, rfl, l2, m2, x2⟩ := read_rows Cd.cells 5 Try.underlying23 Try.cellsCard (by omega) (fun _ _ _ hh => read_card hh) h1
  obtain ⟨a3, n3, k3, e, rfl, l3, m3, x3⟩ := read_rows Ed.cells 2 Try.underlying24 Try.cellsEdit (by omega) (fun _ _ _ hh => read_edit hh) h2
  have hw' : ∀ q, q ∈ DataW.weightsEach Try.prog [22, 23, 24] [y0.1, y1.1, y2.1] → q ≤ reachBytes := fun q hq => hw q (by
    simp only [DataW.weights, Try.underlying26]; exact hq)
  simp only [DataW.weightsEach, List.mem_append] at hw'
  have z1 := weigh Try.underlying22 Try.bytesClock m1 x1 (fun q hq => hw' q (Or.inl hq))
  have z2 := weigh Try.underlying23 Try.bytesCard m2 x2 (fun q hq => hw' q (Or.inr (Or.inl hq)))
  have z3 := weigh Try.underlying24 Try.bytesEdit m3 x3 (fun q hq => hw' q (Or.inr (Or.inr (Or.inl hq))))
  unfold reachBytes at z1 z2 z3
  exact ⟨⟨n1, n2, n3, c, dd, e⟩, a1, a2, a3, k1, k2, k3, rfl, l1, l2, l3, by show n1 ≤ _; omega, by show n2 ≤ _; omega, by show n3 ≤ _; omega, by show 16 * n1 ≤ _; omega, by show 48 * n2 ≤ _; omega, by show 24 * n3 ≤ _; omega⟩
end
end Go.Proofs.Ytdjpkgaicmklmaa

