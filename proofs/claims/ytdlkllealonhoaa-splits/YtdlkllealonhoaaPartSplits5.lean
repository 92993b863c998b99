/- Texts of the proof, one behind the other; what each holds is said at its head. -/
import Derived.Test.YtdlkllealonhoaaPartSplits4
import Derived.BigQuiet
import Derived.Deep.QuietTactic
import Derived.Test.YtdlkllealonhoaaPartSplits2
import Derived.Test.YtdlkllealonhoaaPartSplits3
import Derived.Test.YtdlkllealonhoaaPartSplits0
import Derived.ProofKit
import Derived.SizedLaws
import Derived.Lib.SmallJoins
import Derived.Deep.Slices
import Derived.Deep.RegionHeld3
import Derived.Deep.DeepCutAuto
import Derived.Deep.RegionLaw
import Derived.Test.YtdlkllealonhoaaPartSplits1
/- Salvage, of the reference and of the program, walked. -/
namespace Go.Proofs.Ytdlkllealonhoaa
open Go.RowKit

/-- What is found from a place on. -/
def salvF : Nat → Nat → List UInt8 → List Fd
  | 0, _, _ => []
  | k + 1, i, s => if s = [] then [] else match standRd s with
    | some (f, n) => f.putI i :: salvF k (i + n) (s.drop n)
    | none => salvF k (i + 1) (s.drop 1)
def salv (b : List UInt8) : List Fd := salvF b.length 0 b
theorem salvF_nil (k i : Nat) : salvF k i [] = [] := by cases k <;> rfl
theorem salvF_none {k i : Nat} {s : List UInt8} (hne : s ≠ []) (h : standRd s = none) : salvF (k + 1) i s = salvF k (i + 1) (s.drop 1) := by simp only [salvF, if_neg hne, h]
theorem salvF_some {k i : Nat} {s : List UInt8} {f : Fd} {n : Nat} (hne : s ≠ []) (h : standRd s = some (f, n)) : salvF (k + 1) i s = f.putI i :: salvF k (i + n) (s.drop n) := by simp only [salvF, if_neg hne, h]
theorem standRd_le {s : List UInt8} {f : Fd} {n : Nat} (h : standRd s = some (f, n)) : 7 < n ∧ n ≤ s.length := by
  match s, h with
  | x :: y :: k :: t, h =>
    simp only [standRd] at h
    split at h
    · split at h
      · cases h
      · split at h
        · cases hr : recRd (t.take k.toNat) with
          | none => rw [hr] at h; cases h
          | some g => rw [hr] at h; simp at h; obtain ⟨_, rfl⟩ := h; simp; omega
        · cases h
    · cases h
theorem onesF (f : Fd) : ∀ v, v ∈ f.cells → v.oneCell' = true := by intro v h; simp at h; rcases h with rfl | rfl | rfl | rfl | rfl | rfl | rfl | rfl | rfl <;> rfl

set_option maxRecDepth 100000 in
set_option maxHeartbeats 4000000 in
theorem rsalvage_any (b : List UInt8) (w : World) (hb : b.length ≤ 1099511627776) :
    Calls Try.prog 45 #[.string (str b)] w fun e w' => ∃ ad cap N, e = .returned (.slice ad N cap) ∧ N = (salv b).length ∧ Vec w' w.heap.size 62 9 ad N cap (fcells (salv b)) ∧ Below w.heap.size w w' := by
  have hz := str_size b
  have HZ : Hid ((str b).size = b.length) := hz
  have hbb : (str b).size ≤ 1099511627776 := by omega
  have HB : Hid (b.length ≤ 1099511627776) := hb
  clear hz hb
  go_enter Try.func45, Try.ntmps45
  go_wp2_with fail
  go_loopw [3, 4, 5, 6] (fun v u _ _ wr => ∃ (i : Nat) (ad : Option Addr) (cap N k : Nat) (l : List Fd), i ≤ (str b).size ∧ u = .int .i64 i ∧ v = .slice ad N cap ∧ N = l.length ∧ N ≤ i ∧ b.length - i ≤ k ∧ l ++ salvF k i (b.drop i) = salv b ∧ Vec wr w.heap.size 62 9 ad N cap (fcells l) ∧ Below w.heap.size w wr) (fun _ u _ _ _ => b.length - (intOf u).toNat)
  case atStart => exact ⟨0, _, _, 0, b.length, [], by omega, rfl, rfl, rfl, by omega, by omega, by simp [salv], Vec.nil _ _ _ _, Below.refl _ _⟩
  case round =>
    obtain ⟨i, ad, cap, N, k, l, hi, rfl, rfl, hN, hNi, hk, hl, hv, hbw⟩ := hrel
    have HN : Hid (N = l.length) := hN
    have HL : Hid (l ++ salvF k i (b.drop i) = salv b) := hl
    have HK : Hid (b.length - i ≤ k) := hk
    clear hN hl hk
    by_cases hlt : i < (str b).size
    · have hi2 : i ≤ b.length := by rw [← HZ.out]; omega
      go_wp2_with fail
      refine (rstands_any b i _ HB.out hi2).mono ?_
      rintro e w1 ⟨rfl, hb1⟩
      have hv1 := hv.keep hb1
      have hbw1 := hbw.trans (hb1.mono hbw.size)
      have hz1 := hbw1.size
      clear hv hbw hb1
      obtain ⟨k, rfl⟩ : ∃ k', k = k' + 1 := ⟨k - 1, by have := HK.out; have := HZ.out; omega⟩
      have hne : b.drop i ≠ [] := by
        intro h; have := congrArg List.length h; simp at this; have := HZ.out; omega
      cases hst : standRd (b.drop i) with
      | none =>
        have HS : Hid (l ++ salvF k (i + 1) (b.drop (i + 1)) = salv b) := by
          show _ = _; rw [← HL.out, salvF_none hne hst, List.drop_drop]
        simp only [standV]
        clear hst hne HL
        go_wp2_with fail
        go_roundw
        case rel => exact ⟨i + 1, ad, cap, N, k, l, by omega, by go_num, rfl, HN.out, by omega, by have := HK.out; omega, HS.out, hv1.keep ((Below.refl _ _).alloc (Nat.le_refl _) _), hbw1.alloc hz1 _⟩
        case measure => have := HZ.out; simp [intOf]; omega
      | some p =>
        obtain ⟨f, n⟩ := p
        have hn := standRd_le hst
        simp at hn
        have HS : Hid ((l ++ [f.putI i]) ++ salvF k (i + n) (b.drop (i + n)) = salv b) := by
          show _ = _; rw [← HL.out, salvF_some hne hst, List.drop_drop]; simp
        have hnl : i + n ≤ (str b).size := by have := HZ.out; omega
        have hn7 : 7 < n := by omega
        simp only [standV]
        clear hst hne HL hn
        have hn0 : 0 < n := by omega
        have hvx : ∀ o1 o2, Vec ((w1.alloc o1).alloc o2) w.heap.size 62 9 ad N cap (fcells l) := fun o1 o2 => hv1.keep (((Below.refl _ w1).alloc (Nat.le_refl _) _).alloc (by simp) _)
        have HX : Hid (∀ o1 o2, Vec ((w1.alloc o1).alloc o2) w.heap.size 62 9 ad N cap (fcells l)) := hvx
        clear hvx
        go_wp2_with (at_builtin; refine wpList_push (by rfl) _ _ 55 (by rfl) w.heap.size 62 9 80 (.agg #[.int .i64 0, .int .i64 0, .int .i64 0, .int .i64 0, .int .i64 0, .int .i64 0, .int .i64 0, .bool false, .string ⟨#[]⟩]) Try.underlying55 (by kernel_rfl) rfl (by decide) ad N cap _ (by rfl) (HX.out _ _) _ _ (f.putI i).cells (by rfl) rfl ?_ ?_ ?_ ?_ ?_ ?_; exact new_cells2 _ _ _ _; exact onesF _; (omega); (omega); (simp; omega); intro ad' cap' w' hv' hb' hs')
        have h2 : Below w.heap.size w w' := ((hbw1.alloc hz1 _).alloc (by simp; omega) _).trans hb'
        have hv2 : Vec w' w.heap.size 62 9 ad' (N + 1) cap' (fcells (l ++ [f.putI i])) := by
          rw [fcells_append, fcells_one]; exact hv'
        go_roundw
        case rel => exact ⟨i + n, ad', cap', N + 1, k, l ++ [f.putI i], by omega, by go_num, rfl, by have := HN.out; simp; omega, by omega, by have := HK.out; omega, HS.out, hv2, h2⟩
        case measure => have := HZ.out; simp [intOf]; omega
    · have he : b.drop i = [] := List.drop_of_length_le (by rw [← HZ.out]; omega)
      have HS : Hid (l = salv b) := by show _ = _; rw [← HL.out, he, salvF_nil]; simp
      go_wp2_with fail
      go_ret
      exact ⟨ad, cap, N, rfl, by rw [← HS.out]; exact HN.out, by rw [← HS.out]; exact hv, hbw⟩

set_option maxRecDepth 100000 in
set_option maxHeartbeats 4000000 in
theorem bsalvage_any (b : List UInt8) (w : World) (hb : b.length ≤ 1099511627776) :
    Calls Try.prog 64 #[.string (str b)] w fun e w' => ∃ ad cap N, e = .returned (.slice ad N cap) ∧ N = (salv b).length ∧ Vec w' w.heap.size 62 9 ad N cap (fcells (salv b)) ∧ Below w.heap.size w w' := by
  have hz := str_size b
  have HZ : Hid ((str b).size = b.length) := hz
  have hbb : (str b).size ≤ 1099511627776 := by omega
  have HB : Hid (b.length ≤ 1099511627776) := hb
  clear hz hb
  have hV0 : Hid (Vec (w.alloc (.cells #[] 62)) w.heap.size 62 9 (some ⟨w.heap.size, 0, none⟩) 0 0 (fcells [])) := Vec.lit w w.heap.size 62 9 0 [] (Nat.le_refl _) (by omega) rfl
  go_enter Try.func64, Try.ntmps64
  go_wp2_with fail
  go_loopw [3, 4, 5, 6] (fun v u _ _ wr => ∃ (i : Nat) (ad : Option Addr) (cap N k : Nat) (l : List Fd), i ≤ (str b).size ∧ u = .int .i64 i ∧ v = .slice ad N cap ∧ N = l.length ∧ N ≤ i ∧ b.length - i ≤ k ∧ l ++ salvF k i (b.drop i) = salv b ∧ Vec wr w.heap.size 62 9 ad N cap (fcells l) ∧ Below w.heap.size w wr) (fun _ u _ _ _ => b.length - (intOf u).toNat)
  case atStart => exact ⟨0, _, _, 0, b.length, [], by omega, rfl, rfl, rfl, by omega, by omega, by simp [salv], hV0.out, (Below.refl _ _).alloc (Nat.le_refl _) _⟩
  case round =>
    obtain ⟨i, ad, cap, N, k, l, hi, rfl, rfl, hN, hNi, hk, hl, hv, hbw⟩ := hrel
    have HN : Hid (N = l.length) := hN
    have HL : Hid (l ++ salvF k i (b.drop i) = salv b) := hl
    have HK : Hid (b.length - i ≤ k) := hk
    clear hN hl hk
    by_cases hlt : i < (str b).size
    · have hi2 : i ≤ b.length := by rw [← HZ.out]; omega
      go_wp2_with fail
      refine (frameAt_any b i _ HB.out hi2).mono ?_
      rintro e w1 ⟨rfl, hb1⟩
      have hv1 := hv.keep hb1
      have hbw1 := hbw.trans (hb1.mono hbw.size)
      have hz1 := hbw1.size
      clear hv hbw hb1
      obtain ⟨k, rfl⟩ : ∃ k', k = k' + 1 := ⟨k - 1, by have := HK.out; have := HZ.out; omega⟩
      have hne : b.drop i ≠ [] := by
        intro h; have := congrArg List.length h; simp at this; have := HZ.out; omega
      cases hst : standRd (b.drop i) with
      | none =>
        have HS : Hid (l ++ salvF k (i + 1) (b.drop (i + 1)) = salv b) := by
          show _ = _; rw [← HL.out, salvF_none hne hst, List.drop_drop]
        simp only [standV]
        clear hst hne HL
        go_wp2_with fail
        go_roundw
        case rel => exact ⟨i + 1, ad, cap, N, k, l, by omega, by go_num, rfl, HN.out, by omega, by have := HK.out; omega, HS.out, hv1.keep ((Below.refl _ _).alloc (Nat.le_refl _) _), hbw1.alloc hz1 _⟩
        case measure => have := HZ.out; simp [intOf]; omega
      | some p =>
        obtain ⟨f, n⟩ := p
        have hn := standRd_le hst
        simp at hn
        have HS : Hid ((l ++ [f.putI i]) ++ salvF k (i + n) (b.drop (i + n)) = salv b) := by
          show _ = _; rw [← HL.out, salvF_some hne hst, List.drop_drop]; simp
        have hnl : i + n ≤ (str b).size := by have := HZ.out; omega
        have hn7 : 7 < n := by omega
        simp only [standV]
        clear hst hne HL hn
        have hn0 : ((n : Int) == 0) = false := by rw [beq_eq_false_iff_ne]; omega
        have hvx : ∀ o1 o2, Vec ((w1.alloc o1).alloc o2) w.heap.size 62 9 ad N cap (fcells l) := fun o1 o2 => hv1.keep (((Below.refl _ w1).alloc (Nat.le_refl _) _).alloc (by simp) _)
        have HX : Hid (∀ o1 o2, Vec ((w1.alloc o1).alloc o2) w.heap.size 62 9 ad N cap (fcells l)) := hvx
        clear hvx
        go_wp2_with (at_builtin; refine wpList_push (by rfl) _ _ 55 (by rfl) w.heap.size 62 9 80 (.agg #[.int .i64 0, .int .i64 0, .int .i64 0, .int .i64 0, .int .i64 0, .int .i64 0, .int .i64 0, .bool false, .string ⟨#[]⟩]) Try.underlying55 (by kernel_rfl) rfl (by decide) ad N cap _ (by rfl) (HX.out _ _) _ _ (f.putI i).cells (by rfl) rfl ?_ ?_ ?_ ?_ ?_ ?_; exact new_cells2 _ _ _ _; exact onesF _; (omega); (omega); (simp; omega); intro ad' cap' w' hv' hb' hs')
        have h2 : Below w.heap.size w w' := ((hbw1.alloc hz1 _).alloc (by simp; omega) _).trans hb'
        have hv2 : Vec w' w.heap.size 62 9 ad' (N + 1) cap' (fcells (l ++ [f.putI i])) := by
          rw [fcells_append, fcells_one]; exact hv'
        go_roundw
        case rel => exact ⟨i + n, ad', cap', N + 1, k, l ++ [f.putI i], by omega, by go_num, rfl, by have := HN.out; simp; omega, by omega, by have := HK.out; omega, HS.out, hv2, h2⟩
        case measure => have := HZ.out; simp [intOf]; omega
    · have he : b.drop i = [] := List.drop_of_length_le (by rw [← HZ.out]; omega)
      have HS : Hid (l = salv b) := by show _ = _; rw [← HL.out, he, salvF_nil]; simp
      go_wp2_with fail
      go_ret
      exact ⟨ad, cap, N, rfl, by rw [← HS.out]; exact HN.out, by rw [← HS.out]; exact hv, hbw⟩

set_option maxRecDepth 100000 in
set_option maxHeartbeats 4000000 in
theorem psalvage_any (b : List UInt8) (w : World) (hb : b.length ≤ 1099511627776) :
    Calls Try.prog 30 #[.string (str b)] w fun e w' => ∃ ad cap N, e = .returned (.slice ad N cap) ∧ N = (salv b).length ∧ Vec w' w.heap.size 62 9 ad N cap (fcells (salv b)) ∧ Below w.heap.size w w' := by
  go_enter Try.func30, Try.ntmps30
  go_wp2_with fail
  refine (bsalvage_any b _ hb).mono ?_
  rintro e w' ⟨ad, cap, N, rfl, rfl, h⟩
  go_wp2_with fail
  go_ret
  exact ⟨ad, cap, _, rfl, rfl, h⟩
end Go.Proofs.Ytdlkllealonhoaa

/- What was found, as it lies in memory; how much it is at most. -/
namespace Go.Proofs.Ytdlkllealonhoaa
open Go.RowKit

theorem Lies.found {w : World} {a : Option Addr} {n : Nat} {c : Nat → Fd} (h : Lies w a n 9 (fun i => (c i).cells)) (cap : Nat) {k : Nat} (hk : k < n) :
    ∃ b o, b < w.heap.size ∧ (∀ w', (Instr.indexAt 55 (.slice a n cap) (.int .i64 (k : Int))).run Try.prog w' = .ok (.pointer (some ⟨b, o, none⟩)) w') ∧
      w.cell? ⟨b, o, none⟩ = some (.int .i64 (c k).at_) ∧ w.cell? ⟨b, o + 1, none⟩ = some (.int .i64 (c k).kind) ∧ w.cell? ⟨b, o + 2, none⟩ = some (.int .i64 (c k).seq) ∧
      w.cell? ⟨b, o + 3, none⟩ = some (.int .i64 (c k).base) ∧ w.cell? ⟨b, o + 4, none⟩ = some (.int .i64 (c k).id) ∧ w.cell? ⟨b, o + 5, none⟩ = some (.int .i64 (c k).site) ∧
      w.cell? ⟨b, o + 6, none⟩ = some (.int .i64 (c k).count) ∧ w.cell? ⟨b, o + 7, none⟩ = some (.bool (c k).gone) ∧ w.cell? ⟨b, o + 8, none⟩ = some (.string (c k).text) := by
  obtain ⟨b, o, hb, hi, hc⟩ := h.at cap (P := Try.prog) (t := 55) (by kernel_rfl) (by kernel_rfl) hk
  exact ⟨b, o, hb, hi, hc 0 _ (by omega) rfl, hc 1 _ (by omega) rfl, hc 2 _ (by omega) rfl, hc 3 _ (by omega) rfl, hc 4 _ (by omega) rfl, hc 5 _ (by omega) rfl, hc 6 _ (by omega) rfl, hc 7 _ (by omega) rfl, hc 8 _ (by omega) rfl⟩
theorem fvec_lies {w : World} {B : Nat} {ad : Option Addr} {n cap : Nat} {L : List Fd} (h : Vec w B 62 9 ad n cap (fcells L)) (hn : n = L.length) : Lies w ad n 9 (fun i => (L.getD i fd0).cells) := by
  refine Vec.lies (rows := L.map Fd.cells) h ?_ (by simp [hn]) _ ?_
  · intro r hr; obtain ⟨f, _, rfl⟩ := List.mem_map.1 hr; rfl
  · intro i hi; subst hn; simp [List.getD, hi]
theorem salvF_length : ∀ (k p : Nat) (s : List UInt8), (salvF k p s).length ≤ k
  | 0, _, _ => by simp [salvF]
  | k + 1, p, s => by
    simp only [salvF]
    split
    · simp
    · split
      · rename_i f n _; have := salvF_length k (p + n) (s.drop n); simp; omega
      · have := salvF_length k (p + 1) (s.drop 1); omega
theorem salv_length (b : List UInt8) : (salv b).length ≤ b.length := salvF_length _ _ _
end Go.Proofs.Ytdlkllealonhoaa

/- sameFound, and what own.kept asks: walked. -/
namespace Go.Proofs.Ytdlkllealonhoaa
open Go.RowKit

set_option maxRecDepth 100000 in
set_option maxHeartbeats 4000000 in
theorem sameFound_any (N : Nat) (F : Nat → Fd) (a b : Option Addr) (ca cb : Nat) (w : World) (hA : Lies w a N 9 (fun i => (F i).cells)) (hB : Lies w b N 9 (fun i => (F i).cells)) (hN : N ≤ 9223372036854775807) :
    Calls Try.prog 46 #[.slice a N ca, .slice b N cb] w fun e w' => e = .returned (.bool true) ∧ Below w.heap.size w w' := by
  go_enter Try.func46, Try.ntmps46
  go_wp2
  go_loopw [5] (fun u wr => ∃ j : Nat, j ≤ N ∧ u = .int .i64 j ∧ Below w.heap.size w wr) (fun u _ => N - (intOf u).toNat)
  case atStart => exact ⟨0, Nat.zero_le _, rfl, Below.refl _ _⟩
  case round =>
    obtain ⟨j, hj, rfl, hbr⟩ := hrel
    by_cases hlt : j < N
    · obtain ⟨b, o, hbl, hix, c0, c1, c2, c3, c4, c5, c6, c7, c8⟩ := (hA.below hbr).found ca hlt
      obtain ⟨b', o', hbl', hix', d0, d1, d2, d3, d4, d5, d6, d7, d8⟩ := (hB.below hbr).found cb hlt
      go_wp2
      go_quiet (fail)
      go_wp2
      go_roundw
      case rel => exact ⟨j + 1, by omega, by go_num, below_drewN hbr _⟩
      case measure => simp [intOf]; omega
    · go_wp2
      go_ret
      exact ⟨rfl, hbr⟩

theorem books_lies {Sh : List Value → Prop} {w : World} {B e eb m : Nat} {ad : Option Addr} {cap : Nat} {L : List Bk} (h : Books Sh w B e eb m ad cap L) : Lies w ad L.length (m + 1) (fun i => (L.getD i ⟨none, 0, 0, []⟩).cells) := by
  refine Vec.lies (rows := L.map Bk.cells) h.list ?_ (by simp) _ ?_
  · intro r hr; obtain ⟨x, hx, rfl⟩ := List.mem_map.1 hr; simp [(h.each x hx).len]
  · intro i hi; simp [List.getD, hi]
theorem rep_lies {w : World} {B e m : Nat} {ad : Option Addr} {n cap : Nat} {mk : List Value} (h : Vec w B e m ad n cap (rep n mk)) (hm : mk.length = m) : Lies w ad n m (fun _ => mk) := by
  refine Vec.lies (rows := List.replicate n mk) h ?_ (by simp) _ ?_
  · intro r hr; rw [(List.mem_replicate.1 hr).2]; exact hm
  · intro i hi; simp [List.getD, hi]

set_option maxRecDepth 100000 in
set_option maxHeartbeats 4000000 in
theorem rkept_nil (w : World) (go : Nat) (n : Int) (v4 v5 : Value) (hO : Bx w go 41 [.int .i64 n, .slice none 0 0, .slice none 0 0, .slice none 0 0, v4, v5]) :
    Calls Try.prog 85 #[.pointer (some ⟨go, 0, none⟩)] w fun e w' => e = .returned (.bool true) ∧ w' = w := by
  have c1 := hO.cell 1
  have c2 := hO.cell 2
  have c3 := hO.cell 3
  dsimp only [List.getElem?_cons_zero, List.getElem?_cons_succ] at c1 c2 c3
  go_enter Try.func85, Try.ntmps85
  go_wp2_with fail
  go_loopw [3, 4] (fun u _ wr => u = .int .i64 0 ∧ wr = w) (fun _ _ _ => 0)
  case atStart => exact ⟨rfl, rfl⟩
  case round =>
    obtain ⟨rfl, hw⟩ := hrel
    subst hw
    go_wp2_with fail
    go_loopw [5, 6] (fun u _ wr2 => u = .int .i64 0 ∧ wr2 = wr) (fun _ _ _ => 0)
    case atStart => exact ⟨rfl, rfl⟩
    case round =>
      obtain ⟨rfl, hw⟩ := hrel
      subst hw
      go_wp2_with fail
      go_loopw [7, 8] (fun u _ wr2 => u = .int .i64 0 ∧ wr2 = wr) (fun _ _ _ => 0)
      case atStart => exact ⟨rfl, rfl⟩
      case round =>
        obtain ⟨rfl, hw⟩ := hrel
        subst hw
        go_wp2_with fail
        go_ret
        exact ⟨rfl, by first | rfl | trivial⟩
end Go.Proofs.Ytdlkllealonhoaa

/- Splits: called with any bytes, up to very many, and any size, it answers true. -/
namespace Go.Proofs.Ytdlkllealonhoaa
open Go.RowKit
attribute [local go_sem] str_beq

set_option maxRecDepth 100000 in
set_option maxHeartbeats 4000000 in
theorem sameStrings_any (N : Nat) (F : Nat → List UInt8) (a b : Option Addr) (ca cb : Nat) (w : World) (hA : Lies w a N 1 (fun i => [.string (str (F i))])) (hB : Lies w b N 1 (fun i => [.string (str (F i))])) (hN : N ≤ 9223372036854775807) :
    Calls Try.prog 50 #[.slice a N ca, .slice b N cb] w fun e w' => e = .returned (.bool true) ∧ Below w.heap.size w w' := by
  go_enter Try.func50, Try.ntmps50
  go_wp2
  go_loopw [5] (fun u wr => ∃ j : Nat, j ≤ N ∧ u = .int .i64 j ∧ Below w.heap.size w wr) (fun u _ => N - (intOf u).toNat)
  case atStart => exact ⟨0, Nat.zero_le _, rfl, Below.refl _ _⟩
  case round =>
    obtain ⟨j, hj, rfl, hbr⟩ := hrel
    by_cases hlt : j < N
    · obtain ⟨b, o, hbl, hix, hc⟩ := (hA.below hbr).at ca (P := Try.prog) (t := 46) (by kernel_rfl) (by kernel_rfl) hlt
      obtain ⟨b', o', hbl', hix', hd⟩ := (hB.below hbr).at cb (P := Try.prog) (t := 46) (by kernel_rfl) (by kernel_rfl) hlt
      have c0 : wr.cell? ⟨b, o, none⟩ = some (.string (str (F j))) := hc 0 _ (by omega) rfl
      have d0 : wr.cell? ⟨b', o', none⟩ = some (.string (str (F j))) := hd 0 _ (by omega) rfl
      clear hc hd
      go_wp2
      go_quiet (fail)
      go_wp2
      go_roundw
      case rel => exact ⟨j + 1, by omega, by go_num, below_drewN hbr _⟩
      case measure => simp [intOf]; omega
    · go_wp2
      go_ret
      exact ⟨rfl, hbr⟩

set_option maxRecDepth 100000 in
set_option maxHeartbeats 4000000 in
theorem keptT_any (w : World) (B go : Nat) (n : Int) (v1 v2 v3 : Value) (a4 : Option Addr) (c4 : Nat) (L : List Bk) (hO : Bx w go 41 [.int .i64 n, v1, v2, v3, .slice none 0 0, .slice a4 L.length c4]) (hK : Books ShSt w B 9 111 1 a4 c4 L) (hL : L.length ≤ 1004)
    (hR : Hid (∀ w', Below w.heap.size w w' → Calls Try.prog 85 #[.pointer (some ⟨go, 0, none⟩)] w' fun e w'' => e = .returned (.bool true) ∧ Below w'.heap.size w' w'')) :
    Calls Try.prog 42 #[.pointer (some ⟨go, 0, none⟩)] w fun e w' => e = .returned (.bool true) ∧ Below w.heap.size w w' := by
  have c5 := hO.cell 4
  dsimp only [List.getElem?_cons_zero, List.getElem?_cons_succ] at c5
  go_enter Try.func42, Try.ntmps42
  go_wp2_with fail
  go_loopw [3, 4] (fun u _ wr2 => u = .int .i64 0 ∧ wr2 = w) (fun _ _ _ => 0)
  case atStart => exact ⟨rfl, rfl⟩
  case round =>
    obtain ⟨rfl, hw⟩ := hrel
    subst hw
    go_wp2_with fail
    go_loopw [5, 6] (fun u _ w2 => ∃ i : Nat, i ≤ L.length ∧ u = .int .i64 i ∧ Below wr.heap.size wr w2) (fun u _ _ => L.length - (intOf u).toNat)
    case atStart => exact ⟨0, Nat.zero_le _, rfl, Below.refl _ _⟩
    case round =>
      obtain ⟨i, hi, rfl, hbr⟩ := hrel
      have hOr := hO.below hbr hO.lt
      have hKr := hK.keep hbr
      have cf := hOr.cell 5
      dsimp only [List.getElem?_cons_zero, List.getElem?_cons_succ] at cf
      by_cases hlt : i < L.length
      · have hx := hKr.each L[i] (List.getElem_mem hlt)
        obtain ⟨b, o, hbl, hix, hc⟩ := (books_lies hKr).at c4 (P := Try.prog) (t := 39) (by kernel_rfl) (by kernel_rfl) hlt
        obtain ⟨f, hf⟩ := hx.shape
        rw [show L.getD i ⟨none, 0, 0, []⟩ = L[i] by simp [List.getD, hlt]] at hc
        have s0 : wr.cell? ⟨b, o, none⟩ = some (.slice (L[i]).ad (L[i]).n (L[i]).cap) := hc 0 _ (by omega) rfl
        have hq : Lies wr (L[i]).ad (L[i]).n 1 (fun _ => [.string (str f)]) := rep_lies (by have := hx.vec; rw [hf] at this; exact this) rfl
        have few : (L[i]).n ≤ 1099511627780 := hx.few
        have s1 : wr.cell? ⟨b, o + 1, none⟩ = some (.string (str f)) := hc 1 _ (by omega) (by rw [Bk.cells, List.getElem?_cons_succ, hf]; rfl)
        clear hx hc hf
        generalize L[i] = X at *
        generalize hwr : wr = w5 at *
        clear hwr
        go_wp2_with fail
        go_loopw [6] (fun u wr2 => ∃ k : Nat, k ≤ X.n ∧ u = .int .i64 k ∧ Below w5.heap.size w5 wr2) (fun u _ => X.n - (intOf u).toNat)
        case atStart => exact ⟨0, Nat.zero_le _, rfl, Below.refl _ _⟩
        case round =>
          obtain ⟨k, hk, rfl, hbr2⟩ := hrel
          have cf2 := (hOr.below hbr2 hOr.lt).cell 5
          dsimp only [List.getElem?_cons_zero, List.getElem?_cons_succ] at cf2
          have s2 : wr.cell? ⟨b, o, none⟩ = some (.slice X.ad X.n X.cap) := (hbr2.cell (p := ⟨b, o, none⟩) hbl).trans s0
          have s3 : wr.cell? ⟨b, o + 1, none⟩ = some (.string (str f)) := (hbr2.cell (p := ⟨b, o + 1, none⟩) hbl).trans s1
          by_cases hlt2 : k < X.n
          · obtain ⟨b', o', hbl', hix', hd⟩ := (hq.below hbr2).at X.cap (P := Try.prog) (t := 46) (by kernel_rfl) (by kernel_rfl) hlt2
            have d0 : wr.cell? ⟨b', o', none⟩ = some (.string (str f)) := hd 0 _ (by omega) rfl
            clear hd
            go_wp2
            go_quiet (fail)
            go_wp2
            go_roundw
            case rel => exact ⟨k + 1, by omega, by go_num, below_drewN hbr2 _⟩
            case measure => simp [intOf]; omega
          · go_wp2
            go_roundw
            case rel => exact ⟨i + 1, by omega, by go_num, hbr.trans (hbr2.mono hbr.size)⟩
            case measure => simp [intOf]; omega
      · generalize hwr : wr = w5 at *
        clear hwr
        go_wp2_with fail
        refine (hR.out _ hbr).mono ?_
        rintro e w6 ⟨rfl, hb6⟩
        go_wp2_with fail
        go_ret
        exact ⟨rfl, hbr.trans (hb6.mono hbr.size)⟩

/-- The owner's variable and his books of strings. -/
structure OwnT (w : World) (B go : Nat) (n : Int) (a4 : Option Addr) (c4 : Nat) (L : List Bk) : Prop where
  o : Bx w go 41 [.int .i64 n, .slice none 0 0, .slice none 0 0, .slice none 0 0, .slice none 0 0, .slice a4 L.length c4]
  b : Books ShSt w B 9 111 1 a4 c4 L
theorem OwnT.keep {w w' : World} {B go : Nat} {n : Int} {a4 : Option Addr} {c4 : Nat} {L : List Bk} (h : OwnT w B go n a4 c4 L) (hb : Below w.heap.size w w') : OwnT w' B go n a4 c4 L := ⟨h.o.below hb h.o.lt, h.b.keep hb⟩
theorem OwnT.old {w : World} {B go : Nat} {n : Int} {a4 : Option Addr} {c4 : Nat} {L : List Bk} (h : OwnT w B go n a4 c4 L) : ∀ x, x ∈ L → ∀ b, x.ad = some b → b.block < w.heap.size := by
  intro x hx b hb
  obtain ⟨_, cur, hc⟩ := (h.b.each x hx).vec.typed b.block (by rw [hb]; rfl)
  exact (Array.getElem?_eq_some_iff.1 hc).1

theorem splitL_length (b : List UInt8) (size : Int) : (splitL b size).length ≤ 256 := by
  unfold splitL
  split
  · rename_i h
    rw [vols_len]
    exact Nat.le_of_lt (cnt_small _ _ (by have := h.1; omega) h.2.2)
  · simp

set_option maxRecDepth 100000 in
set_option maxHeartbeats 4000000 in
theorem split_any (s : List UInt8) (size : Int) (w : World) (B go : Nat) (n : Int) (a4 : Option Addr) (c4 : Nat) (L : List Bk) (hO : OwnT w B go n a4 c4 L) (hs : s.length ≤ 9223372036854775807) (hL : L.length ≤ 900) (hB : B ≤ go) (hn0 : 0 ≤ n) (hn1 : n ≤ 900) (hBw : B ≤ w.heap.size) :
    Calls Try.prog 21 #[.string (str s), .int .i64 size, .pointer (some ⟨go, 0, none⟩)] w fun e w' => (e = .returned (.bool true) ∧ ∃ a5 c5 L5, L5.length = L.length + 4 ∧ OwnT w' B go (n + 1) a5 c5 L5) ∧ Below B w w' := by
  have HO : Hid (OwnT w B go n a4 c4 L) := hO
  have HS : Hid (s.length ≤ 9223372036854775807) := hs
  clear hO hs
  go_enter Try.func21, Try.ntmps21
  go_wp2_with fail
  refine (psplit_any s size _ HS.out).mono ?_
  rintro e w1 ⟨ad, cap, N, rfl, h1⟩
  have H1 : Hid (N = (splitL s size).length ∧ Vec w1 w.heap.size 9 1 ad N cap (strs (splitL s size)) ∧ Below w.heap.size w w1) := h1
  clear h1
  go_wp2_with fail
  refine (rsplit_any s size _ HS.out).mono ?_
  rintro e w2 ⟨ad2, cap2, N2, rfl, h2⟩
  obtain rfl : N = N2 := by rw [H1.out.1, h2.1]
  have H2 : Hid (N = (splitL s size).length ∧ Vec w2 w1.heap.size 9 1 ad2 N cap2 (strs (splitL s size)) ∧ Below w1.heap.size w1 w2) := h2
  clear h2
  have hNb : N ≤ 256 := by have := splitL_length s size; have := H1.out.1; omega
  generalize splitE s size = E at *
  go_wp2_with fail
  refine (sameStrings_any N (fun i => (splitL s size).getD i []) ad ad2 cap cap2 _ (strs_lies (H1.out.2.1.keep H2.out.2.2) H1.out.1) (strs_lies H2.out.2.1 H1.out.1) (by omega)).mono ?_
  rintro e w3 ⟨rfl, hb3⟩
  have H3 : Hid (Below w2.heap.size w2 w3) := hb3
  clear hb3
  have H13 : Hid (Below w1.heap.size w1 w3) := H2.out.2.2.trans (H3.out.mono H2.out.2.2.size)
  have HW : Hid (Below w.heap.size w w3) := H1.out.2.2.trans (H13.out.mono H1.out.2.2.size)
  go_wp2_with fail
  refine (strings_any _ B w.heap.size go n _ _ _ _ ad N cap _ a4 c4 L (HO.out.keep HW.out).o (HO.out.keep HW.out).b HO.out.old (H1.out.2.1.keep H13.out) (by omega) (by omega) hB hBw hn0 (by omega) (Nat.le_trans hBw HW.out.size) HW.out.size).mono ?_
  rintro e w4 ⟨⟨v, rfl⟩, ⟨a5, c5, L5, hL5, h5⟩, hb4, -⟩
  have H5 : Hid (Bx w4 go 41 [.int .i64 (n + 1), .slice none 0 0, .slice none 0 0, .slice none 0 0, .slice none 0 0, .slice a5 L5.length c5] ∧ Books ShSt w4 B 9 111 1 a5 c5 L5) := h5
  have HL5 : Hid (L5.length = L.length + 4) := hL5
  have HB5 : Hid (Below B w w4) := (HW.out.mono hBw).trans hb4
  clear h5 hL5 hb4
  go_wp2_with fail
  refine (keptT_any _ B go (n + 1) _ _ _ a5 c5 L5 H5.out.1 H5.out.2 (by have := HL5.out; omega) (fun w' hw' => (rkept_nil w' go (n + 1) _ _ (H5.out.1.below hw' H5.out.1.lt)).mono fun e w'' h => ⟨h.1, by rw [h.2]; exact Below.refl _ _⟩)).mono ?_
  rintro e w6 ⟨rfl, hb6⟩
  have H6 : Hid (Below w4.heap.size w4 w6) := hb6
  clear hb6
  go_wp2_with fail
  go_ret
  exact ⟨⟨rfl, a5, c5, L5, HL5.out, ⟨H5.out.1.below H6.out H5.out.1.lt, H5.out.2.keep H6.out⟩⟩, HB5.out.trans (H6.out.mono (Nat.le_trans hBw HB5.out.size))⟩

set_option maxRecDepth 100000 in
set_option maxHeartbeats 4000000 in
theorem splits_any (s : List UInt8) (size : Int) (w : World) (hs : s.length ≤ 9223372036854775807) :
    Calls Try.prog 8 #[.string (str s), .int .i64 size] w fun e w' => e = .returned (.bool true) ∧ Below w.heap.size w w' := by
  obtain ⟨hO, hW, hB⟩ := one_box w 41 #[.int .i64 0, .slice none 0 0, .slice none 0 0, .slice none 0 0, .slice none 0 0, .slice none 0 0]
  have h0 : OwnT (w.alloc (.cells #[.int .i64 0, .slice none 0 0, .slice none 0 0, .slice none 0 0, .slice none 0 0, .slice none 0 0] 41)) w.heap.size w.heap.size 0 none 0 [] := ⟨hO, Books.nil _ _ _ _ _⟩
  have H0 : Hid (OwnT (w.alloc (.cells #[.int .i64 0, .slice none 0 0, .slice none 0 0, .slice none 0 0, .slice none 0 0, .slice none 0 0] 41)) w.heap.size w.heap.size 0 none 0 []) := h0
  clear h0 hO
  go_enter Try.func8, Try.ntmps8
  go_wp2_with fail
  refine (split_any s size _ w.heap.size w.heap.size 0 none 0 [] H0.out hs (by simp) (Nat.le_refl _) (by omega) (by omega) hB.size).mono ?_
  rintro e w1 ⟨⟨rfl, a5, c5, L5, hL5, hO5⟩, hb1⟩
  have hb2 := hB.trans hb1
  have hL6 : L5.length ≤ 900 := by simp at hL5; omega
  clear hL5
  go_wp2_with fail
  refine (split_any s size _ w.heap.size w.heap.size (0 + 1) a5 c5 L5 hO5 hs hL6 (Nat.le_refl _) (by omega) (by omega) hb2.size).mono ?_
  rintro e w2 ⟨⟨rfl, -⟩, hb3⟩
  go_wp2_with fail
  go_ret
  exact ⟨rfl, hb2.trans hb3⟩
end Go.Proofs.Ytdlkllealonhoaa

/- A replica that comes in, opened: its reading as data gives its rows. -/
namespace Go.Proofs.Ytdlkllealonhoaa
open Go.ChangeShapes Go.WideShapes Go.ChangeAt Go.RowKit Go.Joins Go.Deep

section
variable {H : Type} {enc : TypeId × Value → H} {w : World} {base : Nat} {spare : Nat → Bool} {held : Bool}

theorem Try.cellsInt : Try.prog.cellsOf 3 = 1 := by kernel_rfl
theorem Try.cellsBool : Try.prog.cellsOf 4 = 1 := by kernel_rfl
theorem Try.cellsString : Try.prog.cellsOf 9 = 1 := by kernel_rfl
theorem Try.cellsClock : Try.prog.cellsOf 65 = 2 := by kernel_rfl
theorem Try.cellsCard : Try.prog.cellsOf 67 = 5 := by kernel_rfl
theorem Try.cellsEdit : Try.prog.cellsOf 69 = 2 := by kernel_rfl

theorem list2 {α : Type} {l : List α} (h : l.length = 2) : ∃ a b, l = [a, b] := by
  match l, h with
  | [a, b], _ => exact ⟨a, b, rfl⟩
theorem list5 {α : Type} {l : List α} (h : l.length = 5) : ∃ a b c d e, l = [a, b, c, d, e] := by
  match l, h with
  | [a, b, c, d, e], _ => exact ⟨a, b, c, d, e, rfl⟩

theorem read_clock {n : Nat} {cs : List Value} {x : DataW H × List MemPlace} (h : DataW.trod enc Try.prog w base spare held n 65 cs = some x) : ∃ c : Ck, cs = c.cells := by
  obtain ⟨xs, k, _, _, hl, hlen, hf⟩ := DataW.trod_struct Try.underlying65 h
  rw [Try.cellsClock] at hl
  obtain ⟨c0, c1, rfl⟩ := list2 hl
  obtain ⟨y0, y1, rfl⟩ := list2 (show xs.length = 2 from hlen)
  have g0 := hf 0 _ rfl
  have g1 := hf 1 _ rfl
  simp [Try.cellsInt] at g0 g1
  obtain ⟨n0, e0, _⟩ := DataW.trod_int Try.underlying3 g0
  obtain ⟨n1, e1, _⟩ := DataW.trod_int Try.underlying3 g1
  simp at e0 e1
  subst e0 e1
  exact ⟨⟨n0, n1⟩, rfl⟩

theorem read_edit {n : Nat} {cs : List Value} {x : DataW H × List MemPlace} (h : DataW.trod enc Try.prog w base spare held n 69 cs = some x) : ∃ c : Ed, cs = c.cells := by
  obtain ⟨xs, k, _, _, hl, hlen, hf⟩ := DataW.trod_struct Try.underlying69 h
  rw [Try.cellsEdit] at hl
  obtain ⟨c0, c1, rfl⟩ := list2 hl
  obtain ⟨y0, y1, rfl⟩ := list2 (show xs.length = 2 from hlen)
  have g0 := hf 0 _ rfl
  have g1 := hf 1 _ rfl
  simp [Try.cellsInt, Try.cellsString] at g0 g1
  obtain ⟨n0, e0, _⟩ := DataW.trod_int Try.underlying3 g0
  obtain ⟨n1, e1, _⟩ := DataW.trod_string Try.underlying9 g1
  simp at e0 e1
  subst e0 e1
  exact ⟨⟨n0, n1⟩, rfl⟩

theorem read_card {n : Nat} {cs : List Value} {x : DataW H × List MemPlace} (h : DataW.trod enc Try.prog w base spare held n 67 cs = some x) : ∃ c : Cd, cs = c.cells := by
  obtain ⟨xs, k, _, _, hl, hlen, hf⟩ := DataW.trod_struct Try.underlying67 h
  rw [Try.cellsCard] at hl
  obtain ⟨c0, c1, c2, c3, c4, rfl⟩ := list5 hl
  obtain ⟨y0, y1, y2, y3, y4, rfl⟩ := list5 (show xs.length = 5 from hlen)
  have g0 := hf 0 _ rfl
  have g1 := hf 1 _ rfl
  have g2 := hf 2 _ rfl
  have g3 := hf 3 _ rfl
  have g4 := hf 4 _ rfl
  simp [Try.cellsInt, Try.cellsString, Try.cellsBool] at g0 g1 g2 g3 g4
  obtain ⟨n0, e0, _⟩ := DataW.trod_int Try.underlying3 g0
  obtain ⟨n1, e1, _⟩ := DataW.trod_int Try.underlying3 g1
  obtain ⟨n2, e2, _⟩ := DataW.trod_int Try.underlying3 g2
  obtain ⟨n3, e3, _⟩ := DataW.trod_bool Try.underlying4 g3
  obtain ⟨n4, e4, _⟩ := DataW.trod_string Try.underlying9 g4
  simp at e0 e1 e2 e3 e4
  subst e0 e1 e2 e3 e4
  exact ⟨⟨n0, n1, n2, n3, n4⟩, rfl⟩

theorem addr_plus (b off j : Nat) : (⟨b, off, none⟩ : Addr).add j = ⟨b, off + j, none⟩ := by
  unfold Addr.add
  by_cases h : j = 0 <;> simp [h]

/-- A slice of records that comes in. -/
theorem read_rows {α : Type} [Inhabited α] (cells : α → List Value) (m : Nat) {t e : TypeId} {fuel : Nat} {v : Value} {x : DataW H × List MemPlace} (ht : Try.prog.underlying t = some (.slice e)) (hc : Try.prog.cellsOf e = m) (h0 : 0 < m)
    (hr : ∀ (n : Nat) (cs : List Value) (y : DataW H × List MemPlace), DataW.trod enc Try.prog w 0 (fun _ => true) held n e cs = some y → ∃ c : α, cs = cells c)
    (h : DataW.trod enc Try.prog w 0 (fun _ => true) held fuel t [v] = some x) :
    ∃ (a : Option Addr) (n k : Nat) (f : Nat → α), v = .slice a n k ∧ Lies w a n m (fun i => cells (f i)) ∧ n ≤ k ∧ ((x.1 = .nil ∧ n = 0) ∨ ∃ el sp : List (DataW H), x.1 = .slice el sp ∧ el.length + sp.length = k) := by
  rcases open_slice ht h with ⟨hcs, hx⟩ | ⟨a, len, cap, mm, n, D, Pl, hcs, _, hl, hm, hmm, hx, hel⟩
  · simp at hcs
    exact ⟨none, 0, 0, fun _ => default, hcs, Or.inl rfl, Nat.le_refl _, Or.inl ⟨by rw [hx], rfl⟩⟩
  · simp at hcs
    simp at hmm
    subst hmm
    rw [hc] at hel
    have hall : ∀ i, i < mm → ∃ c : α, w.cells? 0 (a.add (i * m)) m = some (cells c) := fun i hi => by
      obtain ⟨cs', h1, h2⟩ := hel i hi
      obtain ⟨c, rfl⟩ := hr _ _ _ h2
      exact ⟨c, h1⟩
    obtain ⟨f, hf⟩ := choose_lt (α := α) (p := fun i c => w.cells? 0 (a.add (i * m)) m = some (cells c)) hall
    refine ⟨some a, len, mm, f, hcs, ?_, hl, Or.inr ⟨_, _, by rw [hx], by simp; omega⟩⟩
    by_cases hz : len = 0
    · exact Or.inl hz
    · obtain ⟨b, off, spot⟩ := a
      obtain ⟨_, hlen0, hc0⟩ := World.cells?_some (hf 0 (by omega))
      have hcell : w.cell? ((Addr.add ⟨b, off, spot⟩ (0 * m)).add 0) = (cells (f 0))[0]? := hc0 0 h0
      rw [List.getElem?_eq_getElem (by omega)] at hcell
      have hspot : spot = none := by simpa [Addr.add] using World.cell?_spot hcell
      subst hspot
      have hblk : b < w.heap.size := by
        simp only [Nat.zero_mul, addr_plus, Nat.add_zero] at hcell
        unfold World.cell? at hcell
        rcases Nat.lt_or_ge b w.heap.size with h | h
        · exact h
        · simp [Array.getElem?_eq_none h] at hcell
      refine Or.inr ⟨b, off, rfl, hblk, fun i hi j v hj hv => ?_⟩
      obtain ⟨_, _, hci⟩ := World.cells?_some (hf i (by omega))
      have := hci j hj
      rw [addr_plus, addr_plus] at this
      rw [this, hv]

theorem Try.bytesClock : Try.prog.bytesOf 65 = 16 := by kernel_rfl
theorem Try.bytesCard : Try.prog.bytesOf 67 = 48 := by kernel_rfl
theorem Try.bytesEdit : Try.prog.bytesOf 69 = 24 := by kernel_rfl

/-- The bytes of a slice that came in. -/
theorem weigh {t e : TypeId} {d : DataW H} {n k b : Nat} (ht : Try.prog.underlying t = some (.slice e)) (hb : Try.prog.bytesOf e = b) (hn : n ≤ k)
    (hx : (d = .nil ∧ n = 0) ∨ ∃ el sp : List (DataW H), d = .slice el sp ∧ el.length + sp.length = k) (hw : ∀ q, q ∈ d.weights Try.prog t → q ≤ reachBytes) : n * b ≤ reachBytes := by
  rcases hx with ⟨_, rfl⟩ | ⟨el, sp, rfl, rfl⟩
  · simp
  · have := hw ((el.length + sp.length) * Try.prog.bytesOf e) (by simp [DataW.weights, ht])
    rw [hb] at this
    exact Nat.le_trans (Nat.mul_le_mul_right _ hn) this

set_option maxRecDepth 100000 in
/-- A replica that comes in. -/
theorem open_rep {r : Reach} {b0 : Nat} {v : Value} {d : DataW H} {p : List MemPlace} (hv : Value.okWide Try.prog w r b0 26 v)
    (h : DataW.Trod enc Try.prog w 0 (fun _ => true) held 26 v d p) (hw : ∀ q, q ∈ d.weights Try.prog 26 → q ≤ reachBytes) :
    ∃ (R : Rep) (a1 a2 a3 : Option Addr) (k1 k2 k3 : Nat), v = repV R a1 a2 a3 k1 k2 k3 ∧ Has w R a1 a2 a3 := by
  obtain ⟨v0, v1, v2, y0, y1, y2, n, rfl, rfl, _, h0, h1, h2⟩ := open_agg3 Try.underlying26 (by kernel_rfl) (by kernel_rfl) hv h
  have : Inhabited Ck := ⟨⟨0, 0⟩⟩
  have : Inhabited Cd := ⟨⟨0, 0, 0, false, ⟨#[]⟩⟩⟩
  have : Inhabited Ed := ⟨⟨0, ⟨#[]⟩⟩⟩
  obtain ⟨a1, n1, k1, c, rfl, l1, m1, x1⟩ := read_rows Ck.cells 2 Try.underlying22 Try.cellsClock (by omega) (fun _ _ _ hh => read_clock hh) h0
  obtain ⟨a2, n2, k2, dd, rfl, l2, m2, x2⟩ := read_rows Cd.cells 5 Try.underlying23 Try.cellsCard (by omega) (fun _ _ _ hh => read_card hh) h1
  obtain ⟨a3, n3, k3, e, rfl, l3, m3, x3⟩ := read_rows Ed.cells 2 Try.underlying24 Try.cellsEdit (by omega) (fun _ _ _ hh => read_edit hh) h2
  have hw' : ∀ q, q ∈ DataW.weightsEach Try.prog [22, 23, 24] [y0.1, y1.1, y2.1] → q ≤ reachBytes := fun q hq => hw q (by
    simp only [DataW.weights, Try.underlying26]; exact hq)
  simp only [DataW.weightsEach, List.mem_append] at hw'
  have z1 := weigh Try.underlying22 Try.bytesClock m1 x1 (fun q hq => hw' q (Or.inl hq))
  have z2 := weigh Try.underlying23 Try.bytesCard m2 x2 (fun q hq => hw' q (Or.inr (Or.inl hq)))
  have z3 := weigh Try.underlying24 Try.bytesEdit m3 x3 (fun q hq => hw' q (Or.inr (Or.inr (Or.inl hq))))
  unfold reachBytes at z1 z2 z3
  exact ⟨⟨n1, n2, n3, c, dd, e⟩, a1, a2, a3, k1, k2, k3, rfl, l1, l2, l3, by show n1 ≤ _; omega, by show n2 ≤ _; omega, by show n3 ≤ _; omega, by show 16 * n1 ≤ _; omega, by show 48 * n2 ≤ _; omega, by show 24 * n3 ≤ _; omega⟩
end
end Go.Proofs.Ytdlkllealonhoaa

/- parcelkeep.State, walked. -/
namespace Go.Proofs.Ytdlkllealonhoaa
open Go.RowKit

/-- The result's cell and the variable r, at the call's first two blocks: three slices. -/
structure Two (w : World) (B : Nat) (x y z : Value) : Prop where
  r0 : ∃ v, w.cell? ⟨B, 0, none⟩ = some v
  r1 : ∃ v, w.cell? ⟨B, 1, none⟩ = some v
  r2 : ∃ v, w.cell? ⟨B, 2, none⟩ = some v
  rf : ∀ j, w.frozen? ⟨B, j, none⟩ = false
  c0 : w.cell? ⟨B + 1, 0, none⟩ = some x
  c1 : w.cell? ⟨B + 1, 1, none⟩ = some y
  c2 : w.cell? ⟨B + 1, 2, none⟩ = some z
  cf : ∀ j, w.frozen? ⟨B + 1, j, none⟩ = false

theorem Two.below {w w' : World} {B C : Nat} {x y z : Value} (h : Two w B x y z) (hb : Below C w w') (hB : B + 2 ≤ C) : Two w' B x y z := by
  have hc : ∀ b j, b < B + 2 → w'.cell? ⟨b, j, none⟩ = w.cell? ⟨b, j, none⟩ := fun b j hl => hb.cell (p := ⟨b, j, none⟩) (Nat.lt_of_lt_of_le hl hB)
  have hf : ∀ b j, b < B + 2 → w'.frozen? ⟨b, j, none⟩ = w.frozen? ⟨b, j, none⟩ := fun b j hl => hb.frozen (p := ⟨b, j, none⟩) (Nat.lt_of_lt_of_le hl hB)
  exact ⟨by rw [hc _ _ (by omega)]; exact h.r0, by rw [hc _ _ (by omega)]; exact h.r1, by rw [hc _ _ (by omega)]; exact h.r2, fun j => by rw [hf _ _ (by omega)]; exact h.rf j,
    by rw [hc _ _ (by omega)]; exact h.c0, by rw [hc _ _ (by omega)]; exact h.c1, by rw [hc _ _ (by omega)]; exact h.c2, fun j => by rw [hf _ _ (by omega)]; exact h.cf j⟩

/-- What the first loop keeps. -/
structure Inv1 (w0 : World) (gc : Nat) (cn : List Int) (cards : List Cd) (ad : Option Addr) (N cap : Nat) (wr : World) : Prop where
  bel : Below w0.heap.size w0 wr
  two : Two wr w0.heap.size (.slice none 0 0) (.slice ad N cap) (.slice none 0 0)
  cnt : Own wr gc 3 1 (irows cn)
  crd : Vec wr (gc + 1) 67 5 ad N cap (ccells cards)
  len : cards.length = N
  lo : w0.heap.size + 2 ≤ gc

theorem two_start (w w2 : World) {C : Nat} (h : Below C ((w.alloc (.cells #[.slice none 0 0, .slice none 0 0, .slice none 0 0] 26)).alloc (.cells #[.slice none 0 0, .slice none 0 0, .slice none 0 0] 26)) w2) (hC : w.heap.size + 2 ≤ C) :
    Two w2 w.heap.size (.slice none 0 0) (.slice none 0 0) (.slice none 0 0) := by
  refine Two.below (w := (w.alloc (.cells #[.slice none 0 0, .slice none 0 0, .slice none 0 0] 26)).alloc (.cells #[.slice none 0 0, .slice none 0 0, .slice none 0 0] 26)) ⟨⟨_, by simp; rfl⟩, ⟨_, by simp; rfl⟩, ⟨_, by simp; rfl⟩, fun j => by simp, by simp, by simp, by simp, fun j => by simp⟩ h hC

/-- The counts turned. -/
theorem Inv1.count {w0 : World} {gc : Nat} {cn : List Int} {cards : List Cd} {ad : Option Addr} {N cap : Nat} {wr : World} (h : Inv1 w0 gc cn cards ad N cap wr) (k : Nat) (x : Int) :
    Inv1 w0 gc (cn.set k x) cards ad N cap (wr.setCell ⟨gc, k, none⟩ (.int .i64 x)) := by
  have hlo := h.lo
  refine ⟨h.bel.setCell (p := ⟨gc, k, none⟩) (by show w0.heap.size ≤ gc; omega) _, ?_, irows_set h.cnt k x, h.crd.setBelow _ (by show gc < gc + 1; omega) _, h.len, h.lo⟩
  have hb : Below gc wr (wr.setCell ⟨gc, k, none⟩ (.int .i64 x)) := (Below.refl _ _).setCell (p := ⟨gc, k, none⟩) (Nat.le_refl _) _
  exact h.two.below hb hlo
theorem Inv1.step {w0 : World} {gc : Nat} {cn : List Int} {cards : List Cd} {ad : Option Addr} {N cap : Nat} {wr w' : World} (h : Inv1 w0 gc cn cards ad N cap wr) (hb : Below wr.heap.size wr w') : Inv1 w0 gc cn cards ad N cap w' := by
  have hg := h.cnt.lt
  have hlo := h.lo
  exact ⟨h.bel.trans (hb.mono h.bel.size), h.two.below hb (by omega), h.cnt.below hb hg, h.crd.keep hb, h.len, h.lo⟩

theorem Two.set0 {w : World} {B : Nat} {x y z : Value} (h : Two w B x y z) (v : Value) : Two (w.setCell ⟨B + 1, 0, none⟩ v) B v y z := by
  obtain ⟨⟨u0, r0⟩, ⟨u1, r1⟩, ⟨u2, r2⟩, rf, c0, c1, c2, cf⟩ := h
  exact ⟨⟨u0, by rw [World.cell?_setCell_far _ _ _ _ (by simp)]; exact r0⟩, ⟨u1, by rw [World.cell?_setCell_far _ _ _ _ (by simp)]; exact r1⟩, ⟨u2, by rw [World.cell?_setCell_far _ _ _ _ (by simp)]; exact r2⟩, fun j => by rw [World.frozen?_setCell]; exact rf j,
    by simp [go_sem, c0], by simp [go_sem, c1], by simp [go_sem, c2], fun j => by rw [World.frozen?_setCell]; exact cf j⟩
theorem Two.set1 {w : World} {B : Nat} {x y z : Value} (h : Two w B x y z) (v : Value) : Two (w.setCell ⟨B + 1, 1, none⟩ v) B x v z := by
  obtain ⟨⟨u0, r0⟩, ⟨u1, r1⟩, ⟨u2, r2⟩, rf, c0, c1, c2, cf⟩ := h
  exact ⟨⟨u0, by rw [World.cell?_setCell_far _ _ _ _ (by simp)]; exact r0⟩, ⟨u1, by rw [World.cell?_setCell_far _ _ _ _ (by simp)]; exact r1⟩, ⟨u2, by rw [World.cell?_setCell_far _ _ _ _ (by simp)]; exact r2⟩, fun j => by rw [World.frozen?_setCell]; exact rf j,
    by simp [go_sem, c0], by simp [go_sem, c1], by simp [go_sem, c2], fun j => by rw [World.frozen?_setCell]; exact cf j⟩
theorem Two.set2 {w : World} {B : Nat} {x y z : Value} (h : Two w B x y z) (v : Value) : Two (w.setCell ⟨B + 1, 2, none⟩ v) B x y v := by
  obtain ⟨⟨u0, r0⟩, ⟨u1, r1⟩, ⟨u2, r2⟩, rf, c0, c1, c2, cf⟩ := h
  exact ⟨⟨u0, by rw [World.cell?_setCell_far _ _ _ _ (by simp)]; exact r0⟩, ⟨u1, by rw [World.cell?_setCell_far _ _ _ _ (by simp)]; exact r1⟩, ⟨u2, by rw [World.cell?_setCell_far _ _ _ _ (by simp)]; exact r2⟩, fun j => by rw [World.frozen?_setCell]; exact rf j,
    by simp [go_sem, c0], by simp [go_sem, c1], by simp [go_sem, c2], fun j => by rw [World.frozen?_setCell]; exact cf j⟩

/-- The cards turned. -/
theorem Inv1.place {w0 : World} {gc : Nat} {cn : List Int} {cards cards' : List Cd} {ad ad' : Option Addr} {N N' cap cap' : Nat} {wr w' : World} (h : Inv1 w0 gc cn cards ad N cap wr) (hb : Below wr.heap.size wr w')
    (hv : Vec w' wr.heap.size 67 5 ad' N' cap' (ccells cards')) (hl : cards'.length = N') : Inv1 w0 gc cn cards' ad' N' cap' (w'.setCell ⟨w0.heap.size + 1, 1, none⟩ (.slice ad' N' cap')) := by
  have hlo := h.lo
  have hg := h.cnt.lt
  have h2 := h.step hb
  exact ⟨h2.bel.setCell (p := ⟨w0.heap.size + 1, 1, none⟩) (by simp) _, h2.two.set1 _, h2.cnt.setOther _ (by show w0.heap.size + 1 ≠ gc; omega) _, (hv.mono (by omega)).setBelow _ (by show w0.heap.size + 1 < gc + 1; omega) _, hl, hlo⟩

/-- What the later loops keep: ws the world at the first one's end. -/
structure Inv (w0 ws : World) (gc : Nat) (x y z : Value) (wr : World) : Prop where
  bel : Below w0.heap.size w0 wr
  two : Two wr w0.heap.size x y z
  mid : ∀ k, gc ≤ k → k < ws.heap.size → wr.heap[k]? = ws.heap[k]?
  lo : w0.heap.size + 2 ≤ gc
  hi : gc < ws.heap.size
  sz : ws.heap.size ≤ wr.heap.size
theorem Inv.start {w0 : World} {gc : Nat} {x y z : Value} {ws : World} (h1 : Below w0.heap.size w0 ws) (h2 : Two ws w0.heap.size x y z) (h3 : w0.heap.size + 2 ≤ gc) (h4 : gc < ws.heap.size) : Inv w0 ws gc x y z ws :=
  ⟨h1, h2, fun _ _ _ => rfl, h3, h4, Nat.le_refl _⟩
theorem Inv.step {w0 ws : World} {gc : Nat} {x y z : Value} {wr w' : World} (h : Inv w0 ws gc x y z wr) (hb : Below ws.heap.size wr w') : Inv w0 ws gc x y z w' := by
  have h1 := h.bel.size
  have h2 := h.hi
  have h3 := h.lo
  exact ⟨h.bel.trans (hb.mono (by omega)), h.two.below hb (by omega), fun k a b => (hb.block k b).trans (h.mid k a b), h.lo, h.hi, Nat.le_trans h.sz hb.size⟩
theorem Inv.set0 {w0 ws : World} {gc : Nat} {x y z : Value} {wr : World} (h : Inv w0 ws gc x y z wr) (v : Value) : Inv w0 ws gc v y z (wr.setCell ⟨w0.heap.size + 1, 0, none⟩ v) := by
  have h3 := h.lo
  exact ⟨h.bel.setCell (p := ⟨w0.heap.size + 1, 0, none⟩) (by simp) _, h.two.set0 _, fun k a b => (Below.heap_setCell _ _ _ _ (by show k ≠ w0.heap.size + 1; omega)).trans (h.mid k a b), h3, h.hi, by simpa [World.setCell] using h.sz⟩
theorem Inv.set2 {w0 ws : World} {gc : Nat} {x y z : Value} {wr : World} (h : Inv w0 ws gc x y z wr) (v : Value) : Inv w0 ws gc x y v (wr.setCell ⟨w0.heap.size + 1, 2, none⟩ v) := by
  have h3 := h.lo
  exact ⟨h.bel.setCell (p := ⟨w0.heap.size + 1, 2, none⟩) (by simp) _, h.two.set2 _, fun k a b => (Below.heap_setCell _ _ _ _ (by show k ≠ w0.heap.size + 1; omega)).trans (h.mid k a b), h3, h.hi, by simpa [World.setCell] using h.sz⟩
theorem Inv.vec {w0 ws : World} {gc : Nat} {x y z : Value} {wr : World} (h : Inv w0 ws gc x y z wr) {B e m : Nat} {ad : Option Addr} {n cap : Nat} {xs : List Value} (hv : Vec ws B e m ad n cap xs) (hB : gc ≤ B) : Vec wr B e m ad n cap xs := by
  refine ⟨hv.1, ?_⟩
  rcases hv.2 with h2 | ⟨g, c, cur, hv, hb, hg, r⟩
  · exact Or.inl h2
  · exact Or.inr ⟨g, c, cur, hv, hb, by rw [h.mid g (by omega) (Array.getElem?_eq_some_iff.1 hg).1]; exact hg, r⟩
theorem Inv.own {w0 ws : World} {gc : Nat} {x y z : Value} {wr : World} (h : Inv w0 ws gc x y z wr) {e m : Nat} {rows : List (List Value)} (hv : Own ws gc e m rows) : Own wr gc e m rows :=
  ⟨hv.even, by rw [h.mid gc (Nat.le_refl _) hv.lt]; exact hv.block⟩

/-- A card in a block of its own. -/
structure CardAt (w : World) (g : Nat) (i s c : Int) (b : Bool) (t : ByteArray) : Prop where
  c0 : w.cell? ⟨g, 0, none⟩ = some (.int .i64 i)
  c1 : w.cell? ⟨g, 1, none⟩ = some (.int .i64 s)
  c2 : w.cell? ⟨g, 2, none⟩ = some (.int .i64 c)
  c3 : w.cell? ⟨g, 3, none⟩ = some (.bool b)
  c4 : w.cell? ⟨g, 4, none⟩ = some (.string t)
  cf : ∀ j, w.frozen? ⟨g, j, none⟩ = false

theorem cardAt_of {w : World} {g : Nat} {i s c : Int} {b : Bool} {t : ByteArray} (h : w.heap[g]? = some (.cells #[.int .i64 i, .int .i64 s, .int .i64 c, .bool b, .string t] 67)) : CardAt w g i s c b t := by
  refine ⟨?_, ?_, ?_, ?_, ?_, fun j => ?_⟩ <;> simp [World.cell?, World.frozen?, h]

theorem heap_new3 (W : World) (o1 o2 x : Obj) : (((W.alloc o1).alloc o2).alloc x).drew.heap[W.heap.size + 1 + 1]? = some x := by
  show (((W.heap.push o1).push o2).push x)[W.heap.size + 1 + 1]? = _
  rw [Array.getElem?_push, if_pos (by simp)]
theorem heap_new2 (W : World) (o1 o2 x : Obj) : (((W.alloc o1).alloc x).alloc o2).drew.heap[W.heap.size + 1]? = some x := by
  show (((W.heap.push o1).push x).push o2)[W.heap.size + 1]? = _
  rw [Array.getElem?_push, if_neg (by simp), Array.getElem?_push, if_pos (by simp)]
theorem heap_new1 (W : World) (o1 o2 x : Obj) : (((W.alloc x).alloc o1).alloc o2).drew.heap[W.heap.size]? = some x := by
  show (((W.heap.push x).push o1).push o2)[W.heap.size]? = _
  rw [Array.getElem?_push, if_neg (by simp <;> omega), Array.getElem?_push, if_neg (by simp), Array.getElem?_push, if_pos rfl]

theorem heap_newL (W : World) (o1 x : Obj) : ((W.alloc o1).alloc x).drew.heap[W.heap.size + 1]? = some x := by
  show ((W.heap.push o1).push x)[W.heap.size + 1]? = _
  rw [Array.getElem?_push, if_pos (by simp)]
theorem new_at {X : World} {N : Nat} {cs : List Value} {t : TypeId} (h : X.heap[N]? = some (.cells cs.toArray t)) : ∀ j u, cs[j]? = some u → X.cell? ((⟨N, 0, none⟩ : Addr).add j) = some u := by
  intro j u hj
  rw [addr_add]
  simp [World.cell?, h, hj]

theorem set3' (wr : World) (b : Nat) (x y z u0 u1 u2 : Value) (h0 : wr.cell? ⟨b, 0, none⟩ = some u0) (h1 : wr.cell? ⟨b, 1, none⟩ = some u1) (h2 : wr.cell? ⟨b, 2, none⟩ = some u2) :
    ∃ X, X = (((wr.setCell ⟨b, 0, none⟩ x).setCell ⟨b, 1, none⟩ y).setCell ⟨b, 2, none⟩ z) ∧ X.cell? ⟨b, 0, none⟩ = some x ∧ X.cell? ⟨b, 1, none⟩ = some y ∧ X.cell? ⟨b, 2, none⟩ = some z ∧
      (∀ w0, Below b w0 wr → Below b w0 X) ∧ (∀ B e m ad n cap xs, Vec wr B e m ad n cap xs → b < B → Vec X B e m ad n cap xs) := by
  refine ⟨_, rfl, ?_, ?_, ?_, fun w0 h => ?_, fun B e m ad n cap xs h hB => ?_⟩
  · simp [go_sem, h0]
  · simp [go_sem, h1]
  · simp [go_sem, h2]
  · exact ((h.setCell (p := ⟨b, 0, none⟩) (Nat.le_refl _) _).setCell (p := ⟨b, 1, none⟩) (Nat.le_refl _) _).setCell (p := ⟨b, 2, none⟩) (Nat.le_refl _) _
  · exact ((h.setBelow ⟨b, 0, none⟩ hB _).setBelow ⟨b, 1, none⟩ hB _).setBelow ⟨b, 2, none⟩ hB _
theorem has_of {X : World} {B : Nat} {a1 a2 a3 : Option Addr} {N1 N2 N3 c1 c2 c3 : Nat} {K : List Ck} {C : List Cd} {E : List Ed} (h1 : Vec X B 65 2 a1 N1 c1 (kcells K)) (h2 : Vec X B 67 5 a2 N2 c2 (ccells C)) (h3 : Vec X B 69 2 a3 N3 c3 (ecells E))
    (e1 : K.length = N1) (e2 : C.length = N2) (e3 : E.length = N3) (b1 : N1 ≤ 1000) (b2 : N2 ≤ 1000) (b3 : N3 ≤ 1000) : Has X (repOf K C E) a1 a2 a3 ∧ repV (repOf K C E) a1 a2 a3 c1 c2 c3 = .agg #[.slice a1 N1 c1, .slice a2 N2 c2, .slice a3 N3 c3] := by
  subst e1 e2 e3
  refine ⟨⟨kvec_lies h1 rfl, cvec_lies h2 rfl, evec_lies h3 rfl, ?_, ?_, ?_, ?_, ?_, ?_⟩, rfl⟩ <;> simp only [repOf] <;> omega

set_option maxRecDepth 100000 in
set_option maxHeartbeats 8000000 in
theorem state_any (S : Seen) (aw am ae : Option Addr) (cw cm ce ne : Nat) (ef : Nat → Wr) (w : World)
    (hW : Lies w aw S.n 4 (fun i => (S.w i).cells)) (hM : Lies w am S.m 1 (iCells S.f)) (hE : Lies w ae ne 4 (fun i => (ef i).cells))
    (kw : S.n ≤ cw) (kn : S.n ≤ 140737488355328) (_km : S.m ≤ 140737488355328) (ke : ne ≤ 140737488355328)
    (iw : ∀ i, i < S.n → I64 (S.w i).site ∧ I64 (S.w i).id) (im : ∀ i, i < S.m → I64 (S.f i)) (ie : ∀ i, i < ne → I64 (ef i).id) :
    Calls Try.prog 26 #[.slice aw S.n cw, .slice am S.m cm, .slice ae ne ce] w fun e w' =>
      ∃ a1 a2 a3 k1 k2 k3, e = .returned (repV (stateR S ne ef) a1 a2 a3 k1 k2 k3) ∧ Has w' (stateR S ne ef) a1 a2 a3 ∧ Below w.heap.size w w' := by
  go_enter Try.func26, Try.ntmps26
  go_wp2_with fail
  refine (first_any aw S.n cw _ kw).mono ?_
  rintro e w1 ⟨rfl, rfl⟩
  have hlo : min S.n 40 ≤ 40 := by omega
  have hlo2 : min S.n 40 ≤ S.n := by omega
  have HR : Hid (∀ i, i < min S.n 40 → i < S.n) := fun i h => by omega
  generalize hNN : min S.n 40 = NN at *
  have HNN : Hid (min S.n 40 = NN) := hNN
  clear hNN
  go_wp2_with (first
    | (at_make; refine wpList_make_ones (by rfl) _ _ 53 (by rfl) 3 (.int .i64 0) 8 Try.underlying53 (by kernel_rfl) rfl 8 8 rfl (by rfl) (by rfl) ?_ ?_ ?_; (omega); (omega); intro gc ac w2 ec hgc hgl oc hbc))
  simp only [World.size_alloc] at hgc
  have hI0 : Inv1 w gc (runS S 0).1 (runS S 0).2 none 0 0 w2 := by
    refine ⟨?_, two_start w w2 hbc (by simp), ?_, Vec.nil _ _ _ _, rfl, by omega⟩
    · exact (((Below.refl _ w).alloc (Nat.le_refl _) _).alloc (by simp) _).trans (hbc.mono (by simp; omega))
    · exact oc
  clear hbc oc hgl hgc
  go_loopw [10, 11, 12, 13] (fun v _ _ _ wr => ∃ (i : Nat) (ad : Option Addr) (N cap : Nat), i ≤ NN ∧ v = .int .i64 i ∧ Inv1 w gc (runS S i).1 (runS S i).2 ad N cap wr) (fun v _ _ _ _ => NN - (intOf v).toNat)
  case atStart => exact ⟨0, none, 0, 0, Nat.zero_le _, rfl, hI0⟩
  case round =>
    clear hI0
    obtain ⟨i, ad, N, cap, hi, rfl, hI⟩ := hrel
    by_cases hlt : i < NN
    · have hiS := HR.out i hlt
      obtain ⟨b, o, hbl, hix, d0, d1, d2, d3⟩ := (hW.take NN hlo2).wr cw hlt
      have c0 := (hI.bel.cell (p := ⟨b, o, none⟩) hbl).trans d0
      obtain ⟨q1, q2⟩ := iw i hiS
      have hrun : runS S (i + 1) = stepS S (runS S i) (S.w i) := rfl
      have HRun : Hid (runS S (i + 1) = stepS S (runS S i) (S.w i)) := hrun
      have hcl := runS_length S i
      have hcb := runS_counts S i (siteIx (S.w i))
      have hcr := runS_cards S i
      clear hrun
      generalize runS S i = st at *
      generalize hx : S.w i = x at *
      have HX : Hid (S.w i = x) := hx
      clear hx
      have hkx := siteIx_lt x
      have hkp := siteIx_eq x
      have HKP : Hid (pickI x.site 8 = (siteIx x : Int)) := hkp
      clear hkp
      have hMr := hM.below hI.bel
      have xi := fun w' => Own.idx ec (P := Try.prog) (t := 53) (m := 1) 8 8 (by kernel_rfl) (by kernel_rfl) (k := siteIx x) hkx (siteIx x : Int) rfl w'
      obtain ⟨cc, cf⟩ := irows_at hI.cnt (siteIx x) (by rw [hcl]; exact hkx)
      go_wp2_with fail
      refine (pick_any _ 8 _ q1 (by decide) (by decide)).mono ?_
      rintro e w3 ⟨rfl, h3⟩
      obtain rfl := h3.symm
      rw [HKP.out]
      go_wp2_with fail
      refine (seen_any am S.m cm S.f (siteIx x) _ hMr im).mono ?_
      rintro e w4 ⟨rfl, h4⟩
      obtain rfl := h4.symm
      generalize hk : siteIx x = k at *
      have HK : Hid (siteIx x = k) := hk
      clear hk
      generalize hsn : seenI S.m S.f k = sn at *
      have HSN : Hid (seenI S.m S.f k = sn) := hsn
      clear hsn
      generalize hcv : st.1.getD k 0 = cv at *
      have HCV : Hid (st.1.getD k 0 = cv) := hcv
      clear hcv
      obtain ⟨hc0, hc1⟩ := hcb
      by_cases hge : sn ≤ cv
      · have hstep : stepS S st x = st := by unfold stepS; rw [HK.out, HSN.out, HCV.out, if_pos hge]
        have HST : Hid (runS S (i + 1) = st) := by show _ = _; rw [HRun.out, hstep]
        clear hstep
        go_wp2_with fail
        go_roundw
        case rel => exact ⟨i + 1, ad, N, cap, by omega, by go_num, by rw [HST.out]; exact hI⟩
        case measure => simp [intOf]; omega
      · have hI2 := hI.count k (cv + 1)
        have hstep : stepS S st x = (st.1.set k (cv + 1), placedL st.2 (cardOf x k (cv + 1))) := by unfold stepS; rw [HK.out, HSN.out, HCV.out, if_neg hge]
        have HST : Hid (runS S (i + 1) = (st.1.set k (cv + 1), placedL st.2 (cardOf x k (cv + 1)))) := by show _ = _; rw [HRun.out, hstep]
        clear hstep
        have HI2 : Hid (Inv1 w gc (st.1.set k (cv + 1)) st.2 ad N cap (wr.setCell ⟨gc, k, none⟩ (.int .i64 (cv + 1)))) := hI2
        clear hI2
        have hkl : k < (st.1.set k (cv + 1)).length := by rw [List.length_set, hcl]; exact hkx
        have hcnt : ∀ wX, Inv1 w gc (st.1.set k (cv + 1)) st.2 ad N cap wX → wX.cell? ⟨gc, k, none⟩ = some (.int .i64 (cv + 1)) := fun wX hX => by
          have := (irows_at hX.cnt k hkl).1
          rw [this]; simp [List.getD, hcl, hkx]
        have HCN : Hid (∀ wX, Inv1 w gc (st.1.set k (cv + 1)) st.2 ad N cap wX → wX.cell? ⟨gc, k, none⟩ = some (.int .i64 (cv + 1))) := hcnt
        clear hcnt
        go_upto_region 11 with fail
        generalize wr.setCell ⟨gc, k, none⟩ (.int .i64 (cv + 1)) = W at *
        clear c0 cc cf hI hMr
        have e1 := (HI2.out.bel.cell (p := ⟨b, o + 1, none⟩) hbl).trans d1
        have e2 := (HI2.out.bel.cell (p := ⟨b, o + 2, none⟩) hbl).trans d2
        have e3 := HCN.out _ HI2.out
        have hbW : b < W.heap.size := by have := HI2.out.bel.size; omega
        have hgW : gc < W.heap.size := HI2.out.cnt.lt
        have hsite : siteOf (k : Int) = siteL.getD k 0 := by
          unfold siteOf pickI; rw [if_neg (by omega)]
          congr 1; omega
        have HSI : Hid (siteOf (k : Int) = siteL.getD k 0) := hsite
        have ikk : I64 (k : Int) := ⟨by omega, by omega⟩
        clear hsite
        have HSof : Hid (∀ wX, Below W.heap.size W wX → wX.cell? ⟨b, o + 1, none⟩ = some (.int .i64 x.id) ∧ wX.cell? ⟨b, o + 2, none⟩ = some (.bool x.gone) ∧ wX.cell? ⟨gc, k, none⟩ = some (.int .i64 (cv + 1))) := fun wX hX =>
          ⟨(hX.cell (p := ⟨b, o + 1, none⟩) hbW).trans e1, (hX.cell (p := ⟨b, o + 2, none⟩) hbW).trans e2, (hX.cell (p := ⟨gc, k, none⟩) hgW).trans e3⟩
        go_cut [13] (fun v wx => ∃ g, v = .pointer (some ⟨g, 0, none⟩) ∧ W.heap.size ≤ g ∧ g < wx.heap.size ∧ Below W.heap.size W wx ∧ CardAt wx g (numOf x.id) (siteL.getD k 0) (cv + 1) x.gone ⟨#[]⟩)
        case first =>
          go_region_held3 (fun w' => w'.cell? ⟨b, o + 1, none⟩ = some (.int .i64 x.id) ∧ w'.cell? ⟨b, o + 2, none⟩ = some (.bool x.gone) ∧ w'.cell? ⟨gc, k, none⟩ = some (.int .i64 (cv + 1)))
            (first | (go_keep; done) | (refine HSof.out _ ?_; repeat (first | exact Below.refl _ _ | refine Below.drew ?_ | refine Below.alloc ?_ (by simp <;> omega) _ | refine Below.setCell ?_ (by simp <;> omega) _)))
            (first
              | (go_at_call 59; refine (number_keep _ _ q2).mono ?_; rintro e w' ⟨rfl, rfl⟩)
              | (go_at_call 60; refine (site_keep _ _ ikk).mono ?_; rintro e w' ⟨rfl, rfl⟩))
          all_goals go_wp2_with fail
          all_goals go_meet
          all_goals rw [← HSI.out]
          all_goals refine ⟨_, rfl, by omega, by simp <;> omega, ?_, ?_⟩
          all_goals first
            | ((repeat (first | exact Below.refl _ _ | refine Below.drew ?_ | refine Below.alloc ?_ (by simp <;> omega) _)); done)
            | (refine cardAt_of ?_; first | exact heap_new3 _ _ _ _ | exact heap_new2 _ _ _ _ | exact heap_new1 _ _ _ _)
        case rest =>
          obtain ⟨g, rfl, hg1, hg2, hbx, ⟨f0, f1, f2, f3, f4, ff⟩⟩ := hcut
          have hIx := HI2.out.step hbx
          have e4 := (hIx.bel.cell (p := ⟨b, o + 3, none⟩) hbl).trans d3
          have zg : gc < wc.heap.size := hIx.cnt.lt
          clear e1 e2 e3 HSof hbW
          generalize hsl : siteL.getD k 0 = sl at *
          have HSL : Hid (siteL.getD k 0 = sl) := hsl
          clear hsl
          have ff3 := ff 3
          have ff4 := ff 4
          have hr1 := hIx.two.c1
          by_cases hgone : x.gone = true
          · have hcd : cardOf x k (cv + 1) = ⟨numOf x.id, sl, cv + 1, true, ⟨#[]⟩⟩ := by unfold cardOf; rw [if_pos hgone, HSL.out, hgone]
            have HCD : Hid (cardOf x k (cv + 1) = ⟨numOf x.id, sl, cv + 1, true, ⟨#[]⟩⟩) := hcd
            clear hcd
            go_wp2_with fail
            rw [show (Value.agg #[.int .i64 (numOf x.id), .int .i64 sl, .int .i64 (cv + 1), .bool true, .string ⟨#[]⟩]) = cdV (cardOf x k (cv + 1)) by rw [HCD.out]]
            refine (placed_any st.2 (cardOf x k (cv + 1)) (gc + 1) ad N cap _ hIx.crd hIx.len (by have := hIx.len; omega)).mono ?_
            rintro e w5 ⟨ad', cap', N', rfl, hN', hv5, hb5⟩
            have hI5 := hIx.place hb5 hv5 hN'.symm
            have hr5 := (hIx.step hb5).two.c1
            have hf5 := (hIx.step hb5).two.cf 1
            clear hN'
            go_wp2_with fail
            go_roundw
            case rel => exact ⟨i + 1, ad', N', cap', by omega, by go_num, by rw [HST.out]; exact hI5⟩
            case measure => simp [intOf]; omega
          · have hgo : x.gone = false := by simpa using hgone
            have hcd : cardOf x k (cv + 1) = ⟨numOf x.id, sl, cv + 1, false, cutB x.text⟩ := by unfold cardOf; rw [if_neg hgone, HSL.out, hgo]
            have HCD : Hid (cardOf x k (cv + 1) = ⟨numOf x.id, sl, cv + 1, false, cutB x.text⟩) := hcd
            clear hcd
            go_wp2_with fail
            refine (cut_any x.text _).mono ?_
            rintro e w3 ⟨rfl, h3⟩
            obtain rfl := h3.symm
            generalize hct : cutB x.text = ct at *
            have hI3 := HI2.out.step (hbx.setCell (p := ⟨g, 4, none⟩) hg1 (.string ct))
            have hr3 := hI3.two.c1
            clear hIx hr1
            go_wp2_with fail
            rw [show (Value.agg #[.int .i64 (numOf x.id), .int .i64 sl, .int .i64 (cv + 1), .bool false, .string ct]) = cdV (cardOf x k (cv + 1)) by rw [HCD.out]]
            have hIx := hI3
            refine (placed_any st.2 (cardOf x k (cv + 1)) (gc + 1) ad N cap _ hIx.crd hIx.len (by have := hIx.len; omega)).mono ?_
            rintro e w5 ⟨ad', cap', N', rfl, hN', hv5, hb5⟩
            have hI5 := hIx.place hb5 hv5 hN'.symm
            have hr5 := (hIx.step hb5).two.c1
            have hf5 := (hIx.step hb5).two.cf 1
            clear hN'
            go_wp2_with fail
            go_roundw
            case rel => exact ⟨i + 1, ad', N', cap', by omega, by go_num, by rw [HST.out]; exact hI5⟩
            case measure => simp [intOf]; omega
    · obtain rfl : i = NN := by omega
      have hrun : runS S (min S.n 40) = runS S i := by rw [HNN.out]
      have HRun : Hid (runS S (min S.n 40) = runS S i) := hrun
      have hcl := runS_length S i
      have hcr := runS_cards S i
      have hcb := runS_counts S i
      clear hrun HNN HR
      generalize runS S i = st at *
      have hJ0 : Inv w wr gc (.slice none 0 0) (.slice ad N cap) (.slice none 0 0) wr := Inv.start hI.bel hI.two hI.lo hI.cnt.lt
      have HO : Hid (Own wr gc 3 1 (irows st.1)) := hI.cnt
      have HV : Hid (Vec wr (gc + 1) 67 5 ad N cap (ccells st.2)) := hI.crd
      have HL : Hid (st.2.length = N) := hI.len
      clear hI
      go_wp2_with fail
      rename World => ws
      go_loopw [14] (fun v wx => ∃ (k : Nat) (a1 : Option Addr) (N1 cap1 : Nat), k ≤ 8 ∧ v = .int .i64 k ∧ Inv w ws gc (.slice a1 N1 cap1) (.slice ad N cap) (.slice none 0 0) wx ∧ Vec wx ws.heap.size 65 2 a1 N1 cap1 (kcells (clocksTo st.1 k)) ∧ (clocksTo st.1 k).length = N1) (fun v _ => 8 - (intOf v).toNat)
      case atStart => exact ⟨0, none, 0, 0, Nat.zero_le _, rfl, hJ0, Vec.nil _ _ _ _, rfl⟩
      case round =>
        clear hJ0
        obtain ⟨k, a1, N1, cap1, hk, rfl, hJ, hV1, hL1⟩ := hrel
        have HL1 : Hid ((clocksTo st.1 k).length = N1) := hL1
        have hN1 : N1 ≤ k := by have := clocksTo_length st.1 k; omega
        clear hL1
        by_cases hlt : k < 8
        · obtain ⟨cc, cf⟩ := irows_at (hJ.own HO.out) k (by rw [hcl]; exact hlt)
          have xi := fun w' => Own.idx ec (P := Try.prog) (t := 53) (m := 1) 8 8 (by kernel_rfl) (by kernel_rfl) (k := k) hlt (k : Int) rfl w'
          have HC : Hid (clocksTo st.1 (k + 1) = clocksTo st.1 k ++ (if 0 < st.1.getD k 0 then [⟨siteL.getD k 0, st.1.getD k 0⟩] else [])) := rfl
          generalize hcv : st.1.getD k 0 = cv at *
          clear hcv
          by_cases hp : 0 < cv
          · have hC : clocksTo st.1 (k + 1) = clocksTo st.1 k ++ [⟨siteL.getD k 0, cv⟩] := by rw [HC.out, if_pos hp]
            have HC : Hid (clocksTo st.1 (k + 1) = clocksTo st.1 k ++ [⟨siteL.getD k 0, cv⟩]) := hC
            clear hC
            have hsite : siteOf (k : Int) = siteL.getD k 0 := by
              unfold siteOf pickI; rw [if_neg (by omega)]
              congr 1; omega
            have HSI : Hid (siteOf (k : Int) = siteL.getD k 0) := hsite
            clear hsite
            have ikk : I64 (k : Int) := ⟨by omega, by omega⟩
            go_upto_region 19 with fail
            rename World => W
            have hr0 := hJ.two.c0
            have hrf := hJ.two.cf 0
            have hBW : w.heap.size + 1 < W.heap.size := by have := hJ.sz; have := hJ.hi; have := hJ.lo; omega
            have hgW : gc < W.heap.size := by have := hJ.sz; have := hJ.hi; omega
            have hsz := hJ.sz
            have hgl := hJ.lo
            have HSof : Hid (∀ wX, Below ws.heap.size W wX → wX.cell? ⟨gc, k, none⟩ = some (.int .i64 cv)) := fun wX hX => (hX.cell (p := ⟨gc, k, none⟩) hJ.hi).trans cc
            have hr0a : ∀ o, (W.alloc o).cell? ⟨w.heap.size + 1, 0, none⟩ = some (.slice a1 N1 cap1) := fun o => (((Below.refl _ W).alloc (Nat.le_refl _) o).cell (p := ⟨w.heap.size + 1, 0, none⟩) hBW).trans hr0
            have hr0b : ∀ o o', ((W.alloc o).alloc o').cell? ⟨w.heap.size + 1, 0, none⟩ = some (.slice a1 N1 cap1) := fun o o' => ((((Below.refl _ W).alloc (Nat.le_refl _) o).alloc (by simp) o').cell (p := ⟨w.heap.size + 1, 0, none⟩) hBW).trans hr0
            have HV1 : Hid (∀ wX, Below W.heap.size W wX → Vec wX ws.heap.size 65 2 a1 N1 cap1 (kcells (clocksTo st.1 k))) := fun wX hX => hV1.keep hX
            clear hV1
            have hc0a : ∀ o, (W.alloc o).cell? ⟨gc, k, none⟩ = some (.int .i64 cv) := fun o => HSof.out _ ((Below.refl _ W).alloc (by omega) o)
            go_region_law
              (first
                | (go_simp; go_at_call 60; refine (site_keep _ _ ikk).mono ?_; rintro e w' ⟨rfl, rfl⟩; dsimp only)
                | (refine step_push (by rfl) _ _ 22 (by rfl) ws.heap.size 65 2 16 (.agg #[.int .i64 0, .int .i64 0]) Try.underlying22 (by kernel_rfl) rfl (by decide) a1 N1 cap1 _ (by rfl) (HV1.out _ ?_) _ _ [.int .i64 (siteOf (k : Int)), .int .i64 cv] (by rfl) rfl ?_ ?_ ?_ ?_ ?_ ?_; (repeat (first | exact Below.refl _ _ | refine Below.drew ?_ | refine Below.alloc ?_ (by first | omega | (simp; done) | (simp; omega)) _)); (exact new_at (heap_newL _ _ _)); (intro v h; simp at h; rcases h with rfl | rfl <;> rfl); (omega); (omega); (simp; omega); intro a2 cap2 w6 hv6 hb6' hs6; have hb6 : Below ws.heap.size W w6 := Below.trans (by repeat (first | exact Below.refl _ _ | refine Below.drew ?_ | refine Below.alloc ?_ (by first | omega | (simp; done) | (simp; omega)) _)) hb6'; have hf6 := (hJ.step hb6).two.cf 0; have hr6 := (hJ.step hb6).two.c0))
            all_goals
              have hJ6 := (hJ.step hb6).set0 (.slice a2 (N1 + 1) cap2)
              have hv7 := hv6.setBelow ⟨w.heap.size + 1, 0, none⟩ (by show w.heap.size + 1 < ws.heap.size; have := hJ.hi; omega) (.slice a2 (N1 + 1) cap2)
              go_wp2_with fail
              go_roundw
              case rel => exact ⟨k + 1, a2, N1 + 1, cap2, by omega, by go_num, hJ6, by rw [HC.out, kcells_append, ← HSI.out]; exact hv7, by rw [HC.out, List.length_append, HL1.out]; rfl⟩
              case measure => simp [intOf]; omega
          · have hC : clocksTo st.1 (k + 1) = clocksTo st.1 k := by rw [HC.out, if_neg hp, List.append_nil]
            have HC : Hid (clocksTo st.1 (k + 1) = clocksTo st.1 k) := hC
            clear hC
            go_wp2_with fail
            go_roundw
            case rel => exact ⟨k + 1, a1, N1, cap1, by omega, by go_num, hJ, by rw [HC.out]; exact hV1, by rw [HC.out]; exact HL1.out⟩
            case measure => simp [intOf]; omega
        · obtain rfl : k = 8 := by omega
          have hZ0 : ∀ wX, wX = wr → Inv w wX gc (.slice a1 N1 cap1) (.slice ad N cap) (.slice none 0 0) wX := fun wX e => by
            subst e; exact Inv.start hJ.bel hJ.two hJ.lo (by have := hJ.hi; have := hJ.sz; omega)
          have hZ := hZ0 wr rfl
          have HW1 : Hid (Vec wr (gc + 1) 65 2 a1 N1 cap1 (kcells (clocksTo st.1 8))) := hV1.mono hJ.hi
          have HW2 : Hid (Vec wr (gc + 1) 67 5 ad N cap (ccells st.2)) := hJ.vec HV.out (by omega)
          clear hJ hV1 hZ0 HV HO
          go_wp2_with fail
          rename World => ws3
          go_loopw [15] (fun v wx => ∃ (k : Nat) (a3 : Option Addr) (cap3 : Nat), k ≤ ne ∧ k ≤ 8 ∧ v = .int .i64 k ∧ Inv w ws3 gc (.slice a1 N1 cap1) (.slice ad N cap) (.slice a3 k cap3) wx ∧ Vec wx ws3.heap.size 69 2 a3 k cap3 (ecells (editsTo ef k))) (fun v _ => 8 - (intOf v).toNat)
          case atStart => exact ⟨0, none, 0, Nat.zero_le _, Nat.zero_le _, rfl, hZ, Vec.nil _ _ _ _⟩
          case round =>
            clear hZ
            obtain ⟨k, a3, cap3, hk, hk8, rfl, hJ, hV3⟩ := hrel
            by_cases hlt : k < ne ∧ k < 8
            · obtain ⟨hl1, hl2⟩ := hlt
              obtain ⟨b, o, hbl, hix, d0, d1, d2, d3⟩ := hE.wr ce hl1
              have q2 := ie k hl1
              have HC : Hid (editsTo ef (k + 1) = editsTo ef k ++ [⟨numOf (ef k).id, cutB (ef k).text⟩]) := editsTo_succ ef k
              generalize hx : ef k = x at *
              clear hx
              go_upto_region 23 with fail
              rename World => W
              have hr0 := hJ.two.c2
              have hrf := hJ.two.cf 2
              have hsz := hJ.sz
              have hgl := hJ.lo
              have hgh := hJ.hi
              have hBW : w.heap.size + 1 < W.heap.size := by omega
              have hbW : b < W.heap.size := by omega
              have e1 := (hJ.bel.cell (p := ⟨b, o + 1, none⟩) hbl).trans d1
              have e3 := (hJ.bel.cell (p := ⟨b, o + 3, none⟩) hbl).trans d3
              have HSof : Hid (∀ wX, Below ws3.heap.size W wX → wX.cell? ⟨b, o + 1, none⟩ = some (.int .i64 x.id) ∧ wX.cell? ⟨b, o + 3, none⟩ = some (.string x.text)) := fun wX hX => ⟨(hX.cell (p := ⟨b, o + 1, none⟩) (by show b < _; omega)).trans e1, (hX.cell (p := ⟨b, o + 3, none⟩) (by show b < _; omega)).trans e3⟩
              have hr0a : ∀ o, (W.alloc o).cell? ⟨w.heap.size + 1, 2, none⟩ = some (.slice a3 k cap3) := fun o => (((Below.refl _ W).alloc (Nat.le_refl _) o).cell (p := ⟨w.heap.size + 1, 2, none⟩) hBW).trans hr0
              have hr0b : ∀ o o', ((W.alloc o).alloc o').cell? ⟨w.heap.size + 1, 2, none⟩ = some (.slice a3 k cap3) := fun o o' => ((((Below.refl _ W).alloc (Nat.le_refl _) o).alloc (by simp) o').cell (p := ⟨w.heap.size + 1, 2, none⟩) hBW).trans hr0
              have HV1 : Hid (∀ wX, Below W.heap.size W wX → Vec wX ws3.heap.size 69 2 a3 k cap3 (ecells (editsTo ef k))) := fun wX hX => hV3.keep hX
              clear hV3 d0 d1 d2 d3
              generalize hct : cutB x.text = ct at *
              have HCT : Hid (cutB x.text = ct) := hct
              clear hct
              have hc0a : ∀ o', (W.alloc o').cell? ⟨b, o + 1, none⟩ = some (.int .i64 x.id) := fun o' => (HSof.out _ ((Below.refl _ W).alloc (by omega) o')).1
              have hc0b : ∀ o', (W.alloc o').cell? ⟨b, o + 3, none⟩ = some (.string x.text) := fun o' => (HSof.out _ ((Below.refl _ W).alloc (by omega) o')).2
              go_region_law
                (first
                  | (go_simp; go_at_call 59; refine (number_keep _ _ q2).mono ?_; rintro e w' ⟨rfl, rfl⟩; dsimp only)
                  | (go_simp; go_at_call 61; refine (cut_any x.text _).mono ?_; rintro e w' ⟨rfl, rfl⟩; rw [HCT.out]; dsimp only)
                  | (refine step_push (by rfl) _ _ 24 (by rfl) ws3.heap.size 69 2 24 (.agg #[.int .i64 0, .string ⟨#[]⟩]) Try.underlying24 (by kernel_rfl) rfl (by decide) a3 k cap3 _ (by rfl) (HV1.out _ ?_) _ _ [.int .i64 (numOf x.id), .string ct] (by rfl) rfl ?_ ?_ ?_ ?_ ?_ ?_; (repeat (first | exact Below.refl _ _ | refine Below.drew ?_ | refine Below.alloc ?_ (by first | omega | (simp; done) | (simp; omega)) _)); (exact new_at (heap_newL _ _ _)); (intro v h; simp at h; rcases h with rfl | rfl <;> rfl); (omega); (omega); (simp; omega); intro a2 cap2 w6 hv6 hb6' hs6; have hb6 : Below ws3.heap.size W w6 := Below.trans (by repeat (first | exact Below.refl _ _ | refine Below.drew ?_ | refine Below.alloc ?_ (by first | omega | (simp; done) | (simp; omega)) _)) hb6'; have hf6 := (hJ.step hb6).two.cf 2; have hr6 := (hJ.step hb6).two.c2))
              all_goals
                have hJ6 := (hJ.step hb6).set2 (.slice a2 (k + 1) cap2)
                have hv7 := hv6.setBelow ⟨w.heap.size + 1, 2, none⟩ (by show w.heap.size + 1 < ws3.heap.size; have := hJ.hi; omega) (.slice a2 (k + 1) cap2)
                go_wp2_with fail
                go_roundw
                case rel => (repeat apply Exists.intro); exact ⟨⟨k + 1, a2, cap2, by omega, by omega, by go_num, hJ6, by rw [HC.out, ecells_append]; exact hv7⟩, rfl⟩
                case measure => simp [intOf]; omega
            · have HKK : Hid (min ne 8 = k) := by show _ = _; omega
              have hd : k < 8 → ¬ k < ne := by omega
              obtain ⟨⟨v0, r0⟩, ⟨v1, r1⟩, ⟨v2, r2⟩, rf, c0, c1, c2, cf⟩ := hJ.two
              have rf0 := rf 0; have rf1 := rf 1; have rf2 := rf 2
              obtain ⟨X, hX, x0, x1, x2, xb, xv⟩ := set3' wr w.heap.size (.slice a1 N1 cap1) (.slice ad N cap) (.slice a3 k cap3) _ _ _ r0 r1 r2
              have HX : Hid (X = (((wr.setCell ⟨w.heap.size, 0, none⟩ (.slice a1 N1 cap1)).setCell ⟨w.heap.size, 1, none⟩ (.slice ad N cap)).setCell ⟨w.heap.size, 2, none⟩ (.slice a3 k cap3))) := hX
              clear hX
              have hlo1 : w.heap.size < gc + 1 := by have := hJ.lo; omega
              have H1 := xv _ _ _ _ _ _ _ (hJ.vec HW1.out (by omega)) hlo1
              have H2 := xv _ _ _ _ _ _ _ (hJ.vec HW2.out (by omega)) hlo1
              have H3 := xv _ _ _ _ _ _ _ (hV3.mono (show gc + 1 ≤ _ from hJ.hi)) hlo1
              have HB : Hid (Below w.heap.size w X) := xb _ hJ.bel
              obtain ⟨hH, hR⟩ := has_of H1 H2 H3 HL1.out HL.out (by simp [editsTo]) (by omega) (by have := HL.out; omega) (by omega)
              have hS : stateR S ne ef = repOf (clocksTo st.1 8) st.2 (editsTo ef k) := by unfold stateR; rw [HRun.out, HKK.out]
              have HH : Hid (Has X (stateR S ne ef) a1 ad a3) := by show Has _ _ _ _ _; rw [hS]; exact hH
              have HR2 : Hid (repV (stateR S ne ef) a1 ad a3 cap1 cap cap3 = .agg #[.slice a1 N1 cap1, .slice ad N cap, .slice a3 k cap3]) := by show _ = _; rw [hS]; exact hR
              clear hH hR hS H1 H2 H3 xb xv hV3 HW1 HW2 hJ
              by_cases hlt8 : k < 8
              · have hkn := hd hlt8
                clear hd hlt
                go_wp2_with fail
                rw [← HX.out]
                refine bodyPost_ret (v := .agg #[.slice a1 N1 cap1, .slice ad N cap, .slice a3 k cap3]) ?_ rfl ⟨a1, ad, a3, cap1, cap, cap3, by rw [HR2.out], HH.out, HB.out⟩
                simp [results, Try.results26, go_sem, x0, x1, x2]
              · clear hd hlt
                go_wp2_with fail
                all_goals
                  rw [← HX.out]
                  refine bodyPost_ret (v := .agg #[.slice a1 N1 cap1, .slice ad N cap, .slice a3 k cap3]) ?_ rfl ⟨a1, ad, a3, cap1, cap, cap3, by rw [HR2.out], HH.out, HB.out⟩
                  simp [results, Try.results26, go_sem, x0, x1, x2]
end Go.Proofs.Ytdlkllealonhoaa

/- The reference's bundle, walked. -/
namespace Go.Proofs.Ytdlkllealonhoaa
open Go.RowKit
attribute [local go_sem] str_size str_append mk_append_str str_append_mk

set_option maxRecDepth 100000 in
set_option maxHeartbeats 4000000 in
theorem rbundle_any (s b : Int) (R : Rep) (a1 a2 a3 : Option Addr) (k1 k2 k3 : Nat) (w : World) (hR : Has w R a1 a2 a3) (hF : Fit R) (hs : Num s) (hb1 : 0 ≤ b) (hb2 : b ≤ 4294967295) :
    Calls Try.prog 38 #[.agg (lnkA s b R a1 a2 a3 k1 k2 k3)] w fun e w' => e = .returned (.string (str (bundleB (recsOf s b R)))) ∧ Below w.heap.size w w' := by
  have m1 := hF.n1; have m2 := hF.n2; have m3 := hF.n3
  have h0 : BoxL w s b R a1 a2 a3 k1 k2 k3 (w.alloc (.cells (lnkA s b R a1 a2 a3 k1 k2 k3) 73)) := Below.refl _ _
  have hrec := records_any s b R a1 a2 a3 k1 k2 k3 (w.alloc (.cells (lnkA s b R a1 a2 a3 k1 k2 k3) 73)) (hR.below (box_old h0)) hF
  go_enter Try.func38, Try.ntmps38
  go_wp2_with fail
  refine hrec.mono ?_
  rintro e w1 ⟨ad, cap, N, rfl, hN, hv, hh⟩
  have h1 := box_old (box_step h0 hh)
  clear hh h0 hrec
  have hok := hF.ok hs hb1 hb2
  have hNb : N ≤ 3000001 := by rw [hN, recsOf_length]; omega
  generalize hll : recsOf s b R = l at *
  have HLL : Hid (recsOf s b R = l) := hll
  clear hll
  have HN : Hid (N = l.length) := hN
  have HO : Hid (∀ f, f ∈ l → FdOk f) := hok
  clear hN hok
  go_wp2_with fail
  go_loopw [3, 5, 6] (fun v u _ wr => ∃ (k : Nat) (B : List UInt8), k ≤ N ∧ u = .int .i64 k ∧ v = .string (str B) ∧ B = bodyB (l.take k) ∧ B.length ≤ 400000000 ∧ Below w1.heap.size w1 wr) (fun _ u _ _ => N - (intOf u).toNat)
  case atStart => exact ⟨0, [80, 82, 67, 49], Nat.zero_le _, rfl, rfl, rfl, by simp, Below.refl _ _⟩
  case round =>
    obtain ⟨k, B, hk, rfl, rfl, hB, hBl, hb⟩ := hrel
    have HB : Hid (B = bodyB (l.take k)) := hB
    clear hB
    by_cases hlt : k < N
    · have hl : k < l.length := by rw [← HN.out]; exact hlt
      have hvr := hv.keep hb
      obtain ⟨bb, o, _, hbl, hix, hc, _, _⟩ := hvr.at (P := Try.prog) (t := 55) (by kernel_rfl) (by kernel_rfl) hlt (k : Int) rfl
      have hcj : ∀ j, j < 9 → wr.cell? ⟨bb, o + j, none⟩ = l[k].cells[j]? := fun j hj => by
        rw [hc j hj]
        have hE : Even 9 (l.map Fd.cells) := by intro x hx; obtain ⟨y, _, rfl⟩ := List.mem_map.1 hx; rfl
        have h9 := hE.at k j hj (by simpa using hl)
        rw [show fcells l = (l.map Fd.cells).flatten from rfl, h9]
        simp [List.getD, hl]
      have c0 : wr.cell? ⟨bb, o, none⟩ = some (.int .i64 l[k].at_) := hcj 0 (by omega)
      have c1 : wr.cell? ⟨bb, o + 1, none⟩ = some (.int .i64 l[k].kind) := hcj 1 (by omega)
      have c2 : wr.cell? ⟨bb, o + 2, none⟩ = some (.int .i64 l[k].seq) := hcj 2 (by omega)
      have c3 : wr.cell? ⟨bb, o + 3, none⟩ = some (.int .i64 l[k].base) := hcj 3 (by omega)
      have c4 : wr.cell? ⟨bb, o + 4, none⟩ = some (.int .i64 l[k].id) := hcj 4 (by omega)
      have c5 : wr.cell? ⟨bb, o + 5, none⟩ = some (.int .i64 l[k].site) := hcj 5 (by omega)
      have c6 : wr.cell? ⟨bb, o + 6, none⟩ = some (.int .i64 l[k].count) := hcj 6 (by omega)
      have c7 : wr.cell? ⟨bb, o + 7, none⟩ = some (.bool l[k].gone) := hcj 7 (by omega)
      have c8 : wr.cell? ⟨bb, o + 8, none⟩ = some (.string l[k].text) := hcj 8 (by omega)
      have hfk := HO.out l[k] (List.getElem_mem hl)
      have hfl := recF_length hfk
      have hbod : bodyB (l.take (k + 1)) = B ++ frameB (recF l[k]) := by
        rw [List.take_succ_eq_append_getElem hl, bodyB_succ, HB.out]
      have hbl2 := bodyB_length (l.take (k + 1)) (fun f hf => HO.out f (List.mem_of_mem_take hf))
      rw [hbod] at hbl2
      have hfr := frameB_length (recF l[k])
      have hk3 : (l.take (k + 1)).length ≤ 3000001 := by rw [List.length_take]; have := HN.out; omega
      have hbl3 : (B ++ frameB (recF l[k])).length ≤ 400000000 := by omega
      have HD : Hid (bodyB (l.take (k + 1)) = B ++ frameB (recF l[k])) := hbod
      have hfr2 : (frameB (recF l[k])).length ≤ 200 := by omega
      have hcall := fun w0 => rframe_any l[k] w0 hfk
      have HCa : Hid (∀ w0, Calls Try.prog 77 #[.agg l[k].cells.toArray] w0 fun e w' => e = .returned (.string (str (frameB (recF l[k])))) ∧ Below w0.heap.size w0 w') := hcall
      clear hc hcj hbod hbl2 hk3 hvr HB hfk hfr hfl hcall
      generalize frameB (recF l[k]) = fr at *
      generalize l[k] = fk at *
      go_wp2_with fail
      refine (HCa.out _).mono ?_
      rintro e w2 ⟨rfl, hh⟩
      have hb3 : Below w1.heap.size w1 w2 := hb.trans (hh.mono hb.size)
      clear hh
      rw [List.length_append] at hbl3
      go_wp2_with fail
      go_roundw
      case rel => exact ⟨k + 1, B ++ fr, by omega, by go_num, rfl, HD.out.symm, by simp; omega, hb3⟩
      case measure => simp [intOf]; omega
    · have e1 : k = N := by omega
      have E : Hid (B = bodyB l) := by
        have h := HB.out
        rw [e1, HN.out, List.take_of_length_le (Nat.le_refl _)] at h; exact h
      clear e1 HB
      go_wp2_with fail
      refine (rseal_any B _ (by omega)).mono ?_
      rintro e w2 ⟨rfl, hs2⟩
      obtain ⟨c1, c2⟩ := crc_le pSeal (by decide) B
      have F : Hid (B ++ fourI (crc pSeal B) = bundleB l) := by show _ = _; rw [E.out]; rfl
      generalize crc pSeal B = C at *
      go_wp2_with fail
      refine (rfour_any _ _ c1 c2).mono ?_
      rintro e w3 ⟨rfl, hh⟩
      have l5 : (fourI (C : Int)).length ≤ 4 := Nat.le_refl _
      generalize fourI (C : Int) = t at *
      go_wp2_with fail
      go_ret
      exact ⟨ret_str (by rw [HLL.out]; exact F.out), h1.trans ((hb.trans ((hs2.mono hb.size).trans (hh.mono (Nat.le_trans hb.size hs2.size)))).mono h1.size)⟩
end Go.Proofs.Ytdlkllealonhoaa

/- parcellaw.handed: a copy of a replica with spare room, walked. -/
namespace Go.Proofs.Ytdlkllealonhoaa
open Go.RowKit

abbrev mk1 : List Value := [.int .i64 (-7), .int .i64 0]
abbrev mk2 : List Value := [.int .i64 (-7), .int .i64 0, .int .i64 0, .bool false, .string ⟨#[]⟩]
abbrev mk3 : List Value := [.int .i64 (-7), .string ⟨#[]⟩]
abbrev z1 : List Value := [.int .i64 0, .int .i64 0]
abbrev z2 : List Value := [.int .i64 0, .int .i64 0, .int .i64 0, .bool false, .string ⟨#[]⟩]
abbrev z3 : List Value := [.int .i64 0, .string ⟨#[]⟩]

/-- A copy of a replica, with two marks behind each row. -/
structure Handed (w : World) (R : Rep) (b1 b2 b3 : Option Addr) (g1 g2 g3 : Nat) : Prop where
  e1 : b1 = some ⟨g1, 0, none⟩
  e2 : b2 = some ⟨g2, 0, none⟩
  e3 : b3 = some ⟨g3, 0, none⟩
  o1 : Own w g1 65 2 ((List.range R.n1).map (fun i => (R.c i).cells) ++ [mk1, mk1])
  o2 : Own w g2 67 5 ((List.range R.n2).map (fun i => (R.d i).cells) ++ [mk2, mk2])
  o3 : Own w g3 69 2 ((List.range R.n3).map (fun i => (R.e i).cells) ++ [mk3, mk3])
  d12 : g1 < g2
  d23 : g2 < g3

/-- Two places behind a row, the first i of them marked. -/
def mrk (i : Nat) (m z : List Value) : List (List Value) := if i = 0 then [z, z] else if i = 1 then [m, z] else [m, m]
theorem mrk_start (n : Nat) (f : Nat → List Value) (m z : List Value) : (List.range n).map f ++ (List.replicate (n + 2) z).drop n = (List.range n).map f ++ mrk 0 m z := by
  congr 1
  rw [List.drop_replicate, show n + 2 - n = 2 by omega]; rfl
theorem mrk_length (n i : Nat) (f : Nat → List Value) (m z : List Value) : ((List.range n).map f ++ mrk i m z).length = n + 2 := by
  unfold mrk; split; (simp); split <;> simp
theorem mrk_step (n i : Nat) (f : Nat → List Value) (m z : List Value) (hi : i < 2) : ((List.range n).map f ++ mrk i m z).set (n + i) m = (List.range n).map f ++ mrk (i + 1) m z := by
  rw [List.set_append]
  simp only [List.length_map, List.length_range]
  rw [if_neg (by omega), show n + i - n = i by omega]
  congr 1
  rcases (by omega : i = 0 ∨ i = 1) with rfl | rfl <;> rfl
theorem mrk_end (m z : List Value) : mrk 2 m z = [m, m] := rfl

/-- The world behind the parameter's box and the result's cell. -/
abbrev W2 (w : World) (R : Rep) (a1 a2 a3 : Option Addr) (k1 k2 k3 : Nat) : World :=
  (w.alloc (.cells #[.slice a1 R.n1 k1, .slice a2 R.n2 k2, .slice a3 R.n3 k3] 26)).alloc (.cells #[.slice none 0 0, .slice none 0 0, .slice none 0 0] 26)
abbrev Box2 (w : World) (R : Rep) (a1 a2 a3 : Option Addr) (k1 k2 k3 : Nat) (wr : World) : Prop := Below (w.heap.size + 2) (W2 w R a1 a2 a3 k1 k2 k3) wr

theorem Box2.cells {w : World} {R : Rep} {a1 a2 a3 : Option Addr} {k1 k2 k3 : Nat} {wr : World} (hb : Box2 w R a1 a2 a3 k1 k2 k3 wr) :
    wr.cell? ⟨w.heap.size, 0, none⟩ = some (.slice a1 R.n1 k1) ∧ wr.cell? ⟨w.heap.size, 1, none⟩ = some (.slice a2 R.n2 k2) ∧ wr.cell? ⟨w.heap.size, 2, none⟩ = some (.slice a3 R.n3 k3) := by
  refine ⟨?_, ?_, ?_⟩
  · rw [hb.cell (p := ⟨w.heap.size, 0, none⟩) (by simp)]; simp
  · rw [hb.cell (p := ⟨w.heap.size, 1, none⟩) (by simp)]; simp
  · rw [hb.cell (p := ⟨w.heap.size, 2, none⟩) (by simp)]; simp
theorem Box2.size {w : World} {R : Rep} {a1 a2 a3 : Option Addr} {k1 k2 k3 : Nat} {wr : World} (hb : Box2 w R a1 a2 a3 k1 k2 k3 wr) : w.heap.size + 2 ≤ wr.heap.size := by
  have := Below.size hb; simpa using this
theorem Box2.res {w : World} {R : Rep} {a1 a2 a3 : Option Addr} {k1 k2 k3 : Nat} {wr : World} (hb : Box2 w R a1 a2 a3 k1 k2 k3 wr) :
    (wr.cell? ⟨w.heap.size + 1, 0, none⟩ = some (.slice none 0 0) ∧ wr.cell? ⟨w.heap.size + 1, 1, none⟩ = some (.slice none 0 0) ∧ wr.cell? ⟨w.heap.size + 1, 2, none⟩ = some (.slice none 0 0)) ∧
    (∀ j, wr.frozen? ⟨w.heap.size + 1, j, none⟩ = false) := by
  refine ⟨⟨?_, ?_, ?_⟩, fun j => ?_⟩
  · rw [hb.cell (p := ⟨w.heap.size + 1, 0, none⟩) (by simp)]; simp
  · rw [hb.cell (p := ⟨w.heap.size + 1, 1, none⟩) (by simp)]; simp
  · rw [hb.cell (p := ⟨w.heap.size + 1, 2, none⟩) (by simp)]; simp
  · rw [hb.frozen (p := ⟨w.heap.size + 1, j, none⟩) (by simp)]; simp
theorem Box2.old {w : World} {R : Rep} {a1 a2 a3 : Option Addr} {k1 k2 k3 : Nat} {wr : World} (hb : Box2 w R a1 a2 a3 k1 k2 k3 wr) : Below w.heap.size w wr :=
  (((Below.refl _ w).alloc (Nat.le_refl _) _).alloc (by simp) _).trans (hb.mono (by omega))
theorem Box2.step {w : World} {R : Rep} {a1 a2 a3 : Option Addr} {k1 k2 k3 : Nat} {wr w' : World} (hb : Box2 w R a1 a2 a3 k1 k2 k3 wr) (h : Below wr.heap.size wr w') : Box2 w R a1 a2 a3 k1 k2 k3 w' :=
  Below.trans hb (h.mono hb.size)

theorem set3 (wr : World) (b : Nat) (x y z u0 u1 u2 : Value) (h0 : wr.cell? ⟨b, 0, none⟩ = some u0) (h1 : wr.cell? ⟨b, 1, none⟩ = some u1) (h2 : wr.cell? ⟨b, 2, none⟩ = some u2) :
    ∃ X, X = (((wr.setCell ⟨b, 0, none⟩ x).setCell ⟨b, 1, none⟩ y).setCell ⟨b, 2, none⟩ z).drew ∧ X.cell? ⟨b, 0, none⟩ = some x ∧ X.cell? ⟨b, 1, none⟩ = some y ∧ X.cell? ⟨b, 2, none⟩ = some z ∧ Upd b wr X := by
  refine ⟨_, rfl, ?_, ?_, ?_, ((((Upd.refl b wr).setCell ⟨b, 0, none⟩ rfl x).setCell ⟨b, 1, none⟩ rfl y).setCell ⟨b, 2, none⟩ rfl z).drew⟩ <;> simp [go_sem, h0, h1, h2]
theorem cells_len1 (x : Ck) : x.cells.length = 2 := rfl
theorem ones1 (x : Ck) : ∀ v, v ∈ x.cells → v.oneCell' = true := by intro v h; simp at h; rcases h with rfl | rfl <;> rfl
theorem ones2 (x : Cd) : ∀ v, v ∈ x.cells → v.oneCell' = true := by intro v h; simp at h; rcases h with rfl | rfl | rfl | rfl | rfl <;> rfl
theorem ones3 (x : Ed) : ∀ v, v ∈ x.cells → v.oneCell' = true := by intro v h; simp at h; rcases h with rfl | rfl <;> rfl

set_option maxRecDepth 100000 in
set_option maxHeartbeats 4000000 in
theorem handed_any (R : Rep) (a1 a2 a3 : Option Addr) (k1 k2 k3 : Nat) (w : World) (hR : Has w R a1 a2 a3) :
    Calls Try.prog 12 #[repV R a1 a2 a3 k1 k2 k3] w fun e w' => ∃ b1 b2 b3 g1 g2 g3, e = .returned (repV R b1 b2 b3 (R.n1 + 2) (R.n2 + 2) (R.n3 + 2)) ∧ Handed w' R b1 b2 b3 g1 g2 g3 ∧ w.heap.size ≤ g1 ∧ Below w.heap.size w w' := by
  have b1 := hR.b1; have b2 := hR.b2; have b3 := hR.b3; have y1 := hR.y1; have y2 := hR.y2; have y3 := hR.y3
  go_enter Try.func12, Try.ntmps12
  go_wp2_with (first
    | (at_make; refine wpList_make_rows (by rfl) _ _ 22 (by rfl) 65 z1 2 16 Try.underlying22 (by kernel_rfl) rfl (by decide) (R.n1 + 2) _ ?_ (by rfl) (by rfl) ?_ ?_ ?_; (omega); (omega); (omega); intro g1 ad1 w1 e1 hg1 hl1 o1 hb1; have q1 : Box2 w R a1 a2 a3 k1 k2 k3 w1 := hb1.mono (by simp); clear hb1; obtain ⟨c11, c12, c13⟩ := q1.cells; have hL1 := (hR.below q1.old).l1; simp only [World.size_alloc] at hg1)
    | (at_make; refine wpList_make_rows (by rfl) _ _ 23 (by rfl) 67 z2 5 48 Try.underlying23 (by kernel_rfl) rfl (by decide) (R.n2 + 2) _ ?_ (by rfl) (by rfl) ?_ ?_ ?_; (omega); (omega); (omega); intro g2 ad2 w3 e2 hg2 hl3 o2 hb3; have q3 : Box2 w R a1 a2 a3 k1 k2 k3 w3 := q2.step hb3; have o13 := o1'.below hb3 hl2; obtain ⟨c31, c32, c33⟩ := q3.cells; have hL3 := (hR.below q3.old).l2; have hg12 : g1 < g2 := (by omega); clear q2 c21 c22 c23 hL2 o1' hb3 hl2 hg2)
    | (at_make; refine wpList_make_rows (by rfl) _ _ 24 (by rfl) 69 z3 2 24 Try.underlying24 (by kernel_rfl) rfl (by decide) (R.n3 + 2) _ ?_ (by rfl) (by rfl) ?_ ?_ ?_; (omega); (omega); (omega); intro g3 ad3 w5 e3 hg3 hl5 o3 hb5; have q5 : Box2 w R a1 a2 a3 k1 k2 k3 w5 := q4.step hb5; have o15 := o14.below hb5 (by omega); have o25 := o2'.below hb5 hl4; obtain ⟨c51, c52, c53⟩ := q5.cells; have hL5 := (hR.below q5.old).l3; have hg23 : g2 < g3 := (by omega); clear q4 c41 c42 c43 o14 o2' hb5 hl4 hg3)
    | (refine wpList_copy_rows (by rfl) _ _ 22 22 (by rfl) 65 2 Try.underlying22 (by kernel_rfl) g1 ad1 e1 (R.n1 + 2) _ R.n1 _ _ (by rfl) (by rfl) (fun i => (R.c i).cells) _ o1 ?_ ?_ hL1 ?_ ?_ ?_; (simp); (omega); (intro i _; rfl); (intro i _; exact ones1 _); intro w2 o1' u2; have q2 : Box2 w R a1 a2 a3 k1 k2 k3 w2 := u2.below q1 (by omega); obtain ⟨c21, c22, c23⟩ := q2.cells; have hl2 : g1 < w2.heap.size := o1'.lt; have hL2 := (hR.below q2.old).l2; clear q1 c11 c12 c13 hL1 o1 u2 hl1)
    | (refine wpList_copy_rows (by rfl) _ _ 23 23 (by rfl) 67 5 Try.underlying23 (by kernel_rfl) g2 ad2 e2 (R.n2 + 2) _ R.n2 _ _ (by rfl) (by rfl) (fun i => (R.d i).cells) _ o2 ?_ ?_ hL3 ?_ ?_ ?_; (simp); (omega); (intro i _; rfl); (intro i _; exact ones2 _); intro w4 o2' u4; have q4 : Box2 w R a1 a2 a3 k1 k2 k3 w4 := u4.below q3 (by omega); obtain ⟨c41, c42, c43⟩ := q4.cells; have hl4 : g2 < w4.heap.size := o2'.lt; have o14 := o13.upd u4 (by omega); clear q3 c31 c32 c33 hL3 o2 u4 o13 hl3)
    | (refine wpList_copy_rows (by rfl) _ _ 24 24 (by rfl) 69 2 Try.underlying24 (by kernel_rfl) g3 ad3 e3 (R.n3 + 2) _ R.n3 _ _ (by rfl) (by rfl) (fun i => (R.e i).cells) _ o3 ?_ ?_ hL5 ?_ ?_ ?_; (simp); (omega); (intro i _; rfl); (intro i _; exact ones3 _); intro w6 o3' u6; have q6 : Box2 w R a1 a2 a3 k1 k2 k3 w6 := u6.below q5 (by omega); have o16 := o15.upd u6 (by omega); have o26 := o25.upd u6 (by omega); clear q5 c51 c52 c53 hL5 o3 u6 o15 o25 hl5))
  rw [mrk_start _ _ mk1] at o16
  rw [mrk_start _ _ mk2] at o26
  rw [mrk_start _ _ mk3] at o3'
  go_loopw [6] (fun v wr => ∃ i : Nat, i ≤ 2 ∧ v = .int .i64 i ∧ Own wr g1 65 2 ((List.range R.n1).map (fun i => (R.c i).cells) ++ mrk i mk1 z1) ∧ Own wr g2 67 5 ((List.range R.n2).map (fun i => (R.d i).cells) ++ mrk i mk2 z2) ∧ Own wr g3 69 2 ((List.range R.n3).map (fun i => (R.e i).cells) ++ mrk i mk3 z3) ∧ Box2 w R a1 a2 a3 k1 k2 k3 wr) (fun v _ => 2 - (intOf v).toNat)
  case atStart => exact ⟨0, by omega, rfl, o16, o26, o3', q6⟩
  case round =>
    clear o16 o26 o3' q6
    obtain ⟨i, hi, rfl, o1, o2, o3, q⟩ := hrel
    obtain ⟨c1, c2, c3⟩ := q.cells
    by_cases hlt : i < 2
    · have x1 := fun w' => Own.idx e1 (P := Try.prog) (t := 22) (m := 2) (R.n1 + 2) (R.n1 + 2) (by kernel_rfl) (by kernel_rfl) (k := R.n1 + i) (by omega) ((R.n1 : Int) + (i : Int)) (by omega) w'
      have x2 := fun w' => Own.idx e2 (P := Try.prog) (t := 23) (m := 5) (R.n2 + 2) (R.n2 + 2) (by kernel_rfl) (by kernel_rfl) (k := R.n2 + i) (by omega) ((R.n2 : Int) + (i : Int)) (by omega) w'
      have x3 := fun w' => Own.idx e3 (P := Try.prog) (t := 24) (m := 2) (R.n3 + 2) (R.n3 + 2) (by kernel_rfl) (by kernel_rfl) (k := R.n3 + i) (by omega) ((R.n3 : Int) + (i : Int)) (by omega) w'
      go_wp2_with (first
        | (refine wpList_store_rows (by rfl) _ _ 65 (by rfl) 65 2 (by kernel_rfl) g1 (R.n1 + i) _ rfl (by rfl) mk1 (by rfl) rfl ?_ _ o1 ?_ ?_; (simp [Value.oneCell']); (rw [mrk_length]; omega); rw [mrk_step _ _ _ _ _ hlt]; intro wa oa ua; have ob := o2.upd ua (by omega); have oc := o3.upd ua (by omega); have qa : Box2 w R a1 a2 a3 k1 k2 k3 wa := ua.below q (by omega); obtain ⟨ca1, ca2, ca3⟩ := qa.cells; clear o1 o2 o3 q c1 c2 c3 ua)
        | (refine wpList_store_rows (by rfl) _ _ 67 (by rfl) 67 5 (by kernel_rfl) g2 (R.n2 + i) _ rfl (by rfl) mk2 (by rfl) rfl ?_ _ ob ?_ ?_; (simp [Value.oneCell']); (rw [mrk_length]; omega); rw [mrk_step _ _ _ _ _ hlt]; intro wb od ub; have oe := oa.upd ub (by omega); have of := oc.upd ub (by omega); have qb : Box2 w R a1 a2 a3 k1 k2 k3 wb := ub.below qa (by omega); obtain ⟨cb1, cb2, cb3⟩ := qb.cells; clear oa ob oc qa ca1 ca2 ca3 ub)
        | (refine wpList_store_rows (by rfl) _ _ 69 (by rfl) 69 2 (by kernel_rfl) g3 (R.n3 + i) _ rfl (by rfl) mk3 (by rfl) rfl ?_ _ of ?_ ?_; (simp [Value.oneCell']); (rw [mrk_length]; omega); rw [mrk_step _ _ _ _ _ hlt]; intro wc og uc; have oh := oe.upd uc (by omega); have oi := od.upd uc (by omega); have qc : Box2 w R a1 a2 a3 k1 k2 k3 wc := uc.below qb (by omega); clear od oe of qb cb1 cb2 cb3 uc))
      go_roundw
      case rel => exact ⟨i + 1, by omega, by go_num, oh, oi, og, qc⟩
      case measure => simp [intOf]; omega
    · obtain rfl : i = 2 := by omega
      rw [mrk_end] at o1 o2 o3
      obtain ⟨⟨r1, r2, r3⟩, rf⟩ := q.res
      have rf0 := rf 0; have rf1 := rf 1; have rf2 := rf 2
      have u1 : (0 : Int) ≤ (R.n1 : Int) := by omega
      have u2 : (R.n1 : Int) ≤ (R.n1 : Int) + 2 := by omega
      have u3 : (0 : Int) ≤ (R.n2 : Int) := by omega
      have u4 : (R.n2 : Int) ≤ (R.n2 : Int) + 2 := by omega
      have u5 : (0 : Int) ≤ (R.n3 : Int) := by omega
      have u6 : (R.n3 : Int) ≤ (R.n3 : Int) + 2 := by omega
      have hz := q.size
      go_wp2_with fail
      go_region_held3 (fun w' => w'.cell? ⟨w.heap.size, 0, none⟩ = some (.slice a1 R.n1 k1) ∧ w'.cell? ⟨w.heap.size, 1, none⟩ = some (.slice a2 R.n2 k2) ∧ w'.cell? ⟨w.heap.size, 2, none⟩ = some (.slice a3 R.n3 k3))
         (first | (go_keep; done))
         (fail)
      go_wp2_with fail
      obtain ⟨X, hX, x0, x1, x2, hu⟩ := set3 wr (w.heap.size + 1) (.slice ad1 R.n1 (R.n1 + 2)) (.slice ad2 R.n2 (R.n2 + 2)) (.slice ad3 R.n3 (R.n3 + 2)) _ _ _ r1 r2 r3
      rw [← hX]
      clear hX
      have hH : Handed X R ad1 ad2 ad3 g1 g2 g3 := ⟨e1.out, e2.out, e3.out, o1.upd hu (by omega), o2.upd hu (by omega), o3.upd hu (by omega), hg12, hg23⟩
      have hB : Below w.heap.size w X := hu.below q.old (by omega)
      have hgg : w.heap.size ≤ g1 := by omega
      refine bodyPost_ret (v := repV R ad1 ad2 ad3 (R.n1 + 2) (R.n2 + 2) (R.n3 + 2)) ?_ rfl ⟨ad1, ad2, ad3, g1, g2, g3, rfl, hH, hgg, hB⟩
      simp [results, Try.results12, go_sem, x0, x1, x2]
end Go.Proofs.Ytdlkllealonhoaa

/- parcellaw.sameReplica and parcellaw.still, walked, where the two replicas are the same. -/
namespace Go.Proofs.Ytdlkllealonhoaa
open Go.RowKit

/-- Two boxes. -/
abbrev BoxS (w : World) (R : Rep) (a1 a2 a3 b1 b2 b3 : Option Addr) (k1 k2 k3 l1 l2 l3 : Nat) (wr : World) : Prop :=
  Below (w.heap.size + 2) ((w.alloc (.cells #[.slice a1 R.n1 k1, .slice a2 R.n2 k2, .slice a3 R.n3 k3] 26)).alloc (.cells #[.slice b1 R.n1 l1, .slice b2 R.n2 l2, .slice b3 R.n3 l3] 26)) wr

theorem BoxS.cells {w : World} {R : Rep} {a1 a2 a3 b1 b2 b3 : Option Addr} {k1 k2 k3 l1 l2 l3 : Nat} {wr : World} (hb : BoxS w R a1 a2 a3 b1 b2 b3 k1 k2 k3 l1 l2 l3 wr) :
    (wr.cell? ⟨w.heap.size, 0, none⟩ = some (.slice a1 R.n1 k1) ∧ wr.cell? ⟨w.heap.size, 1, none⟩ = some (.slice a2 R.n2 k2) ∧ wr.cell? ⟨w.heap.size, 2, none⟩ = some (.slice a3 R.n3 k3)) ∧
    wr.cell? ⟨w.heap.size + 1, 0, none⟩ = some (.slice b1 R.n1 l1) ∧ wr.cell? ⟨w.heap.size + 1, 1, none⟩ = some (.slice b2 R.n2 l2) ∧ wr.cell? ⟨w.heap.size + 1, 2, none⟩ = some (.slice b3 R.n3 l3) := by
  refine ⟨⟨?_, ?_, ?_⟩, ?_, ?_, ?_⟩
  · rw [hb.cell (p := ⟨w.heap.size, 0, none⟩) (by simp)]; simp
  · rw [hb.cell (p := ⟨w.heap.size, 1, none⟩) (by simp)]; simp
  · rw [hb.cell (p := ⟨w.heap.size, 2, none⟩) (by simp)]; simp
  · rw [hb.cell (p := ⟨w.heap.size + 1, 0, none⟩) (by simp)]; simp
  · rw [hb.cell (p := ⟨w.heap.size + 1, 1, none⟩) (by simp)]; simp
  · rw [hb.cell (p := ⟨w.heap.size + 1, 2, none⟩) (by simp)]; simp
theorem BoxS.old {w : World} {R : Rep} {a1 a2 a3 b1 b2 b3 : Option Addr} {k1 k2 k3 l1 l2 l3 : Nat} {wr : World} (hb : BoxS w R a1 a2 a3 b1 b2 b3 k1 k2 k3 l1 l2 l3 wr) : Below w.heap.size w wr :=
  (((Below.refl _ w).alloc (Nat.le_refl _) _).alloc (by simp) _).trans (hb.mono (by omega))
theorem BoxS.size {w : World} {R : Rep} {a1 a2 a3 b1 b2 b3 : Option Addr} {k1 k2 k3 l1 l2 l3 : Nat} {wr : World} (hb : BoxS w R a1 a2 a3 b1 b2 b3 k1 k2 k3 l1 l2 l3 wr) : w.heap.size + 2 ≤ wr.heap.size := by
  have := Below.size hb; simpa using this

set_option maxRecDepth 100000 in
set_option maxHeartbeats 4000000 in
theorem sameReplica_any (R : Rep) (a1 a2 a3 b1 b2 b3 : Option Addr) (k1 k2 k3 l1 l2 l3 : Nat) (w : World) (hA : Has w R a1 a2 a3) (hB : Has w R b1 b2 b3) :
    Calls Try.prog 36 #[repV R a1 a2 a3 k1 k2 k3, repV R b1 b2 b3 l1 l2 l3] w fun e w' => e = .returned (.bool true) ∧ Below w.heap.size w w' := by
  have y1 := hA.b1; have y2 := hA.b2; have y3 := hA.b3
  go_enter Try.func36, Try.ntmps36
  go_wp2
  go_loopw [5] (fun i wr => ∃ k : Nat, k ≤ R.n1 ∧ i = .int .i64 k ∧ BoxS w R a1 a2 a3 b1 b2 b3 k1 k2 k3 l1 l2 l3 wr) (fun i _ => R.n1 - (intOf i).toNat)
  case atStart => exact ⟨0, Nat.zero_le _, rfl, Below.refl _ _⟩
  case round =>
    obtain ⟨k, hk, rfl, hb⟩ := hrel
    obtain ⟨⟨x1, x2, x3⟩, z1, z2, z3⟩ := hb.cells
    by_cases hlt : k < R.n1
    · obtain ⟨b, o, hbl, hix, hs, hc⟩ := (hA.below hb.old).l1.clock k1 hlt
      obtain ⟨b', o', hbl', hix', hs', hc'⟩ := (hB.below hb.old).l1.clock l1 hlt
      go_wp2
      go_quiet (fail)
      go_wp2
      go_roundw
      case rel => exact ⟨k + 1, by omega, by go_num, below_drewN hb _⟩
      case measure => simp [intOf]; omega
    · go_wp2
      go_loopw [6] (fun i wr => ∃ k : Nat, k ≤ R.n2 ∧ i = .int .i64 k ∧ BoxS w R a1 a2 a3 b1 b2 b3 k1 k2 k3 l1 l2 l3 wr) (fun i _ => R.n2 - (intOf i).toNat)
      case atStart => exact ⟨0, Nat.zero_le _, rfl, hb⟩
      case round =>
        clear x1 x2 x3 z1 z2 z3 hb hk hlt
        obtain ⟨k, hk, rfl, hb⟩ := hrel
        obtain ⟨⟨x1, x2, x3⟩, z1, z2, z3⟩ := hb.cells
        by_cases hlt : k < R.n2
        · obtain ⟨b, o, hbl, hix, c1, c2, c3, c4, c5⟩ := (hA.below hb.old).l2.card k2 hlt
          obtain ⟨b', o', hbl', hix', d1, d2, d3, d4, d5⟩ := (hB.below hb.old).l2.card l2 hlt
          go_wp2
          go_quiet (fail)
          go_wp2
          go_roundw
          case rel => exact ⟨k + 1, by omega, by go_num, below_drewN hb _⟩
          case measure => simp [intOf]; omega
        · go_wp2
          go_loopw [7] (fun i wr => ∃ k : Nat, k ≤ R.n3 ∧ i = .int .i64 k ∧ BoxS w R a1 a2 a3 b1 b2 b3 k1 k2 k3 l1 l2 l3 wr) (fun i _ => R.n3 - (intOf i).toNat)
          case atStart => exact ⟨0, Nat.zero_le _, rfl, hb⟩
          case round =>
            clear x1 x2 x3 z1 z2 z3 hb hk hlt
            obtain ⟨k, hk, rfl, hb⟩ := hrel
            obtain ⟨⟨x1, x2, x3⟩, z1, z2, z3⟩ := hb.cells
            by_cases hlt : k < R.n3
            · obtain ⟨b, o, hbl, hix, c1, c2⟩ := (hA.below hb.old).l3.edit k3 hlt
              obtain ⟨b', o', hbl', hix', d1, d2⟩ := (hB.below hb.old).l3.edit l3 hlt
              go_wp2
              go_quiet (fail)
              go_wp2
              go_roundw
              case rel => exact ⟨k + 1, by omega, by go_num, below_drewN hb _⟩
              case measure => simp [intOf]; omega
            · go_wp2
              go_ret
              exact ⟨rfl, hb.old⟩

theorem Own.mark {w : World} {g e m n i : Nat} {f : Nat → List Value} {mk : List Value} (h : Own w g e m ((List.range n).map f ++ [mk, mk])) (hi : i < 2) (hm : 0 < m) {v : Value} (hv : mk[0]? = some v) : w.cell? ⟨g, (n + i) * m, none⟩ = some v := by
  have hc := h.cell (n + i) 0 (by simp; omega) hm
  rw [Nat.add_zero] at hc
  rw [hc]
  have hg : ((List.range n).map f ++ [mk, mk]).getD (n + i) [] = mk := by
    rw [List.getD, List.getElem?_append_right (by simp)]
    simp only [List.length_map, List.length_range, show n + i - n = i by omega]
    rcases (by omega : i = 0 ∨ i = 1) with rfl | rfl <;> rfl
  rw [hg, hv]

theorem Handed.has {w : World} {R : Rep} {a1 a2 a3 b1 b2 b3 : Option Addr} {g1 g2 g3 : Nat} (h : Handed w R b1 b2 b3 g1 g2 g3) {w0 : World} (hR : Has w0 R a1 a2 a3) : Has w R b1 b2 b3 := by
  refine ⟨?_, ?_, ?_, hR.b1, hR.b2, hR.b3, hR.y1, hR.y2, hR.y3⟩
  · rw [h.e1]; refine h.o1.lies R.n1 _ (by simp) fun i hi => ?_
    rw [List.getD, List.getElem?_append_left (by simpa using hi)]; simp [hi]
  · rw [h.e2]; refine h.o2.lies R.n2 _ (by simp) fun i hi => ?_
    rw [List.getD, List.getElem?_append_left (by simpa using hi)]; simp [hi]
  · rw [h.e3]; refine h.o3.lies R.n3 _ (by simp) fun i hi => ?_
    rw [List.getD, List.getElem?_append_left (by simpa using hi)]; simp [hi]

theorem Handed.below {w w' : World} {R : Rep} {b1 b2 b3 : Option Addr} {g1 g2 g3 : Nat} (h : Handed w R b1 b2 b3 g1 g2 g3) (hb : Below w.heap.size w w') : Handed w' R b1 b2 b3 g1 g2 g3 :=
  ⟨h.e1, h.e2, h.e3, h.o1.below hb h.o1.lt, h.o2.below hb h.o2.lt, h.o3.below hb h.o3.lt, h.d12, h.d23⟩

theorem boxS_step {w : World} {R : Rep} {a1 a2 a3 b1 b2 b3 : Option Addr} {k1 k2 k3 l1 l2 l3 : Nat} {wr w' : World} (hb : BoxS w R a1 a2 a3 b1 b2 b3 k1 k2 k3 l1 l2 l3 wr) (h : Below wr.heap.size wr w') : BoxS w R a1 a2 a3 b1 b2 b3 k1 k2 k3 l1 l2 l3 w' :=
  Below.trans hb (h.mono hb.size)

set_option maxRecDepth 100000 in
set_option maxHeartbeats 4000000 in
theorem still_any (R : Rep) (a1 a2 a3 b1 b2 b3 : Option Addr) (g1 g2 g3 k1 k2 k3 : Nat) (w : World) (hA : Has w R a1 a2 a3) (hH : Handed w R b1 b2 b3 g1 g2 g3) :
    Calls Try.prog 15 #[repV R b1 b2 b3 (R.n1 + 2) (R.n2 + 2) (R.n3 + 2), repV R a1 a2 a3 k1 k2 k3] w fun e w' => e = .returned (.bool true) ∧ Below w.heap.size w w' := by
  have y1 := hA.b1; have y2 := hA.b2; have y3 := hA.b3
  have u1 : (0 : Int) ≤ (R.n1 : Int) + 2 := by omega
  have u3 : (0 : Int) ≤ (R.n2 : Int) + 2 := by omega
  have u5 : (0 : Int) ≤ (R.n3 : Int) + 2 := by omega
  have hb0 : BoxS w R b1 b2 b3 a1 a2 a3 (R.n1 + 2) (R.n2 + 2) (R.n3 + 2) k1 k2 k3 ((w.alloc (.cells #[.slice b1 R.n1 (R.n1 + 2), .slice b2 R.n2 (R.n2 + 2), .slice b3 R.n3 (R.n3 + 2)] 26)).alloc (.cells #[.slice a1 R.n1 k1, .slice a2 R.n2 k2, .slice a3 R.n3 k3] 26)) := Below.refl _ _
  go_enter Try.func15, Try.ntmps15
  go_wp2_with fail
  refine (sameReplica_any R b1 b2 b3 a1 a2 a3 _ _ _ _ _ _ _ ((hH.has hA).below hb0.old) (hA.below hb0.old)).mono ?_
  rintro e w1 ⟨rfl, h1⟩
  have hb1 := boxS_step hb0 h1
  clear h1 hb0
  obtain ⟨⟨x1, x2, x3⟩, z1, z2, z3⟩ := hb1.cells
  go_wp2_with fail
  go_loop [9] (fun v => ∃ i : Nat, i ≤ 2 ∧ v = .int .i64 i) (fun v => 2 - (intOf v).toNat)
  case atStart => exact ⟨0, by omega, rfl⟩
  case round =>
    obtain ⟨i, hi, rfl⟩ := hrel
    have hH1 := hH.below hb1.old
    by_cases hlt : i < 2
    · have e1 : Hid (b1 = some ⟨g1, 0, none⟩) := hH.e1
      have e2 : Hid (b2 = some ⟨g2, 0, none⟩) := hH.e2
      have e3 : Hid (b3 = some ⟨g3, 0, none⟩) := hH.e3
      have v1 := fun w' => Own.idx e1 (P := Try.prog) (t := 22) (m := 2) (R.n1 + 2) (R.n1 + 2) (by kernel_rfl) (by kernel_rfl) (k := R.n1 + i) (by omega) ((R.n1 : Int) + (i : Int)) (by omega) w'
      have v2 := fun w' => Own.idx e2 (P := Try.prog) (t := 23) (m := 5) (R.n2 + 2) (R.n2 + 2) (by kernel_rfl) (by kernel_rfl) (k := R.n2 + i) (by omega) ((R.n2 : Int) + (i : Int)) (by omega) w'
      have v3 := fun w' => Own.idx e3 (P := Try.prog) (t := 24) (m := 2) (R.n3 + 2) (R.n3 + 2) (by kernel_rfl) (by kernel_rfl) (k := R.n3 + i) (by omega) ((R.n3 : Int) + (i : Int)) (by omega) w'
      have c1 := hH1.o1.mark hlt (by omega) (v := .int .i64 (-7)) rfl
      have c2 := hH1.o2.mark hlt (by omega) (v := .int .i64 (-7)) rfl
      have c3 := hH1.o3.mark hlt (by omega) (v := .int .i64 (-7)) rfl
      go_wp2_with fail
      go_round
      case rel => exact ⟨i + 1, by omega, by go_num⟩
      case measure => simp [intOf]; omega
    · go_wp2_with fail
      go_ret
      exact ⟨rfl, hb1.old⟩
end Go.Proofs.Ytdlkllealonhoaa

/- parcelref.numbered, walked. -/
namespace Go.Proofs.Ytdlkllealonhoaa
open Go.RowKit

set_option maxHeartbeats 4000000 in
theorem numbered_any (R : Rep) (a1 a2 a3 : Option Addr) (k1 k2 k3 : Nat) (w : World) (hR : Has w R a1 a2 a3) :
    Calls Try.prog 32 #[repV R a1 a2 a3 k1 k2 k3] w fun e w' => e = .returned (.bool (!R.numB)) ∧ Below w.heap.size w w' := by
  have b1 := hR.b1; have b2 := hR.b2; have b3 := hR.b3
  go_enter Try.func32, Try.ntmps32
  go_wp2
  go_loopw [3, 4] (fun v i wr => ∃ (k : Nat) (x : Bool), k ≤ R.n1 ∧ i = .int .i64 k ∧ v = .bool x ∧ (x = !anyTo R.num1 k) ∧ BoxR w R a1 a2 a3 k1 k2 k3 wr) (fun _ i _ => R.n1 - (intOf i).toNat)
  case atStart => exact ⟨0, true, Nat.zero_le _, rfl, rfl, rfl, Below.refl _ _⟩
  case round =>
    obtain ⟨k, x, hk, rfl, rfl, hx, hb⟩ := hrel
    obtain ⟨x1, x2, x3⟩ := box3 hb
    have HX : Hid (x = !anyTo R.num1 k) := hx
    clear hx
    by_cases hlt : k < R.n1
    · obtain ⟨b, o, hbl, hix, hs, hc⟩ := (hR.below (below_box hb)).l1.clock k1 hlt
      go_wp2_with (go_at_call 71; refine (within_out _ _ _).mono ?_; rintro e w' ⟨rfl, rfl⟩)
      all_goals
        go_roundw
        case rel =>
          refine ⟨k + 1, _, by omega, by go_num, rfl, ?_, hb⟩
          have h := HX.out
          simp only [anyTo, Rep.num1, scB]
          revert h
          simp [*]
          try (cases anyTo R.num1 k <;> simp [*])
        case measure => simp [intOf]; omega
    · have e1 : k = R.n1 := by omega
      have N1 : Hid (x = !anyTo R.num1 R.n1) := e1 ▸ HX.out
      clear HX e1
      go_wp2
      go_loopw [3, 7] (fun v i wr => ∃ (k : Nat) (x : Bool), k ≤ R.n2 ∧ i = .int .i64 k ∧ v = .bool x ∧ (x = !(anyTo R.num1 R.n1 || anyTo R.num2 k)) ∧ BoxR w R a1 a2 a3 k1 k2 k3 wr) (fun _ i _ => R.n2 - (intOf i).toNat)
      case atStart => exact ⟨0, x, Nat.zero_le _, rfl, rfl, by rw [N1.out]; simp [anyTo], hb⟩
      case round =>
        clear x1 x2 x3 hb hk hlt N1
        obtain ⟨k, x, hk, rfl, rfl, hx, hb⟩ := hrel
        obtain ⟨x1, x2, x3⟩ := box3 hb
        have HX : Hid (x = !(anyTo R.num1 R.n1 || anyTo R.num2 k)) := hx
        clear hx
        by_cases hlt : k < R.n2
        · obtain ⟨b, o, hbl, hix, hi, hs, hc, -, -⟩ := (hR.below (below_box hb)).l2.card k2 hlt
          go_wp2_with (go_at_call 71; refine (within_out _ _ _).mono ?_; rintro e w' ⟨rfl, rfl⟩)
          all_goals
            go_roundw
            case rel =>
              refine ⟨k + 1, _, by omega, by go_num, rfl, ?_, hb⟩
              have h := HX.out
              simp only [anyTo, Rep.num2, scB]
              revert h
              simp [*]
              try (cases anyTo R.num1 R.n1 <;> cases anyTo R.num2 k <;> simp [*])
            case measure => simp [intOf]; omega
        · have e1 : k = R.n2 := by omega
          have N1 : Hid (x = !(anyTo R.num1 R.n1 || anyTo R.num2 R.n2)) := e1 ▸ HX.out
          clear HX e1
          go_wp2
          go_loopw [3, 11] (fun v i wr => ∃ (k : Nat) (x : Bool), k ≤ R.n3 ∧ i = .int .i64 k ∧ v = .bool x ∧ (x = !(anyTo R.num1 R.n1 || (anyTo R.num2 R.n2 || anyTo R.num3 k))) ∧ BoxR w R a1 a2 a3 k1 k2 k3 wr) (fun _ i _ => R.n3 - (intOf i).toNat)
          case atStart => exact ⟨0, x, Nat.zero_le _, rfl, rfl, by rw [N1.out]; simp [anyTo], hb⟩
          case round =>
            clear x1 x2 x3 hb hk hlt N1
            obtain ⟨k, x, hk, rfl, rfl, hx, hb⟩ := hrel
            obtain ⟨x1, x2, x3⟩ := box3 hb
            have HX : Hid (x = !(anyTo R.num1 R.n1 || (anyTo R.num2 R.n2 || anyTo R.num3 k))) := hx
            clear hx
            by_cases hlt : k < R.n3
            · obtain ⟨b, o, hbl, hix, hi, -⟩ := (hR.below (below_box hb)).l3.edit k3 hlt
              go_wp2_with (go_at_call 71; refine (within_out _ _ _).mono ?_; rintro e w' ⟨rfl, rfl⟩)
              all_goals
                go_roundw
                case rel =>
                  refine ⟨k + 1, _, by omega, by go_num, rfl, ?_, hb⟩
                  have h := HX.out
                  simp only [anyTo, Rep.num3]
                  revert h
                  simp [*]
                  try (cases anyTo R.num1 R.n1 <;> cases anyTo R.num2 R.n2 <;> cases anyTo R.num3 k <;> simp [*])
                case measure => simp [intOf]; omega
            · have e1 : k = R.n3 := by omega
              have N1 : Hid (x = !(anyTo R.num1 R.n1 || (anyTo R.num2 R.n2 || anyTo R.num3 R.n3))) := e1 ▸ HX.out
              clear HX e1
              go_wp2
              go_ret
              exact ⟨ret_bool N1.out, below_box hb⟩
end Go.Proofs.Ytdlkllealonhoaa

