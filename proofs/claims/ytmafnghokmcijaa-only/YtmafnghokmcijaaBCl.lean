/- sound.sameStamp and sound.clashing, walked. -/
import Derived.Test.YtmafnghokmcijaaB
import Derived.Deep.RegionHeld3
namespace Go.Proofs.Ytmafnghokmcijaa
open Go.RowKit

abbrev cdV (x : Cd) : Value := .agg #[.int .i64 x.id, .int .i64 x.site, .int .i64 x.count, .bool x.gone, .string x.text]

set_option maxHeartbeats 1000000 in
theorem sameStamp_any (x y : Cd) (w : World) :
    Calls Try.prog 76 #[cdV x, cdV y] w fun e w' => e = .returned (.bool (stampB x y)) ∧ Below w.heap.size w w' := by
  go_enter Try.func76, Try.ntmps76
  go_wp2
  all_goals (go_ret; refine ⟨ret_bool ?_, ((Below.refl _ _).alloc (Nat.le_refl _) _).alloc (by simp) _⟩; unfold stampB; simp [*])

set_option maxHeartbeats 2000000 in
theorem clashing_any (a : Option Addr) (n cap : Nat) (d : Nat → Cd) (w : World) (hn : n ≤ 140737488355328) (hL : Lies w a n 5 (fun i => (d i).cells)) :
    Calls Try.prog 54 #[.slice a n cap] w fun e w' => e = .returned (.bool (anyTo (fun i => anyTo (fun k => stampB (d i) (d k)) i) n)) ∧ Below w.heap.size w w' := by
  go_enter Try.func54, Try.ntmps54
  go_wp2
  go_loopw [3, 4] (fun i _ wr => ∃ k : Nat, k ≤ n - 1 ∧ i = .int .i64 ((k : Int) + 1) ∧ (k < n → anyTo (fun i => anyTo (fun k => stampB (d i) (d k)) i) (k + 1) = false) ∧ Below w.heap.size w wr) (fun i _ _ => n - (intOf i).toNat)
  case atStart => exact ⟨0, Nat.zero_le _, rfl, fun _ => rfl, Below.refl _ _⟩
  case round =>
    obtain ⟨k, hk, rfl, hno, hb⟩ := hrel
    have HN : Hid (k < n → anyTo (fun i => anyTo (fun k => stampB (d i) (d k)) i) (k + 1) = false) := hno
    clear hno
    by_cases hlt : k + 1 < n
    · have hd1 : decide ((k : Int) + 1 < (n : Int)) = true := by simp; omega
      go_wp2
      go_loopw [4] (fun i wr => ∃ j : Nat, j ≤ k + 1 ∧ i = .int .i64 j ∧ anyTo (fun i => stampB (d (k + 1)) (d i)) j = false ∧ Below w.heap.size w wr) (fun i _ => k + 1 - (intOf i).toNat)
      case atStart => exact ⟨0, Nat.zero_le _, rfl, rfl, hb⟩
      case round =>
        clear hb
        obtain ⟨j, hj, rfl, hno, hb⟩ := hrel
        have HM : Hid (anyTo (fun i => stampB (d (k + 1)) (d i)) j = false) := hno
        clear hno
        by_cases hjt : j < k + 1
        · obtain ⟨b, o, hbl, hix, c1, c2, c3, c4, c5⟩ := (hL.below hb).card cap hlt
          obtain ⟨b', o', hbl', hix', c1', c2', c3', c4', c5'⟩ := (hL.below hb).card cap (show j < n by omega)
          rw [show ((k + 1 : Nat) : Int) = (k : Int) + 1 from by omega] at hix
          go_wp2
          go_region_held3 (fun w' => w'.cell? ⟨b, o, none⟩ = some (.int .i64 (d (k + 1)).id) ∧ w'.cell? ⟨b, o + 1, none⟩ = some (.int .i64 (d (k + 1)).site) ∧ w'.cell? ⟨b, o + 2, none⟩ = some (.int .i64 (d (k + 1)).count) ∧ w'.cell? ⟨b, o + 3, none⟩ = some (.bool (d (k + 1)).gone) ∧ w'.cell? ⟨b, o + 4, none⟩ = some (.string (d (k + 1)).text) ∧
             w'.cell? ⟨b', o', none⟩ = some (.int .i64 (d j).id) ∧ w'.cell? ⟨b', o' + 1, none⟩ = some (.int .i64 (d j).site) ∧ w'.cell? ⟨b', o' + 2, none⟩ = some (.int .i64 (d j).count) ∧ w'.cell? ⟨b', o' + 3, none⟩ = some (.bool (d j).gone) ∧ w'.cell? ⟨b', o' + 4, none⟩ = some (.string (d j).text)) (first | (go_keep; done) | (simp only [hcc b _ hbl, hcc b' _ hbl']; go_keep; done))
             (first | (go_at_call 76; refine (sameStamp_any (d (k + 1)) (d j) _).mono ?_; rintro e w' ⟨rfl, hb2⟩; obtain ⟨hcc, hff⟩ := bcell hb2))
          all_goals go_wp2
          · have hp : stampB (d (k + 1)) (d j) = true := by assumption
            go_ret
            refine ⟨ret_bool ?_, hb.trans ((below_drewN (Below.refl _ wr) 1).mono (Nat.le_refl _) |>.trans (hb2.mono hb.size))⟩
            exact (anyTo_hit (p := fun i => anyTo (fun k => stampB (d i) (d k)) i) hlt (anyTo_hit (p := fun i => stampB (d (k + 1)) (d i)) hjt hp)).symm
          · have hp : stampB (d (k + 1)) (d j) = false := by assumption
            go_roundw
            case rel => exact ⟨j + 1, by omega, by go_num, anyTo_no (p := fun i => stampB (d (k + 1)) (d i)) HM.out hp, hb.trans ((below_drewN (Below.refl _ wr) 1).mono (Nat.le_refl _) |>.trans (hb2.mono hb.size))⟩
            case measure => simp [intOf]; omega
        · have e1 : j = k + 1 := by omega
          have N1 : Hid (anyTo (fun i => stampB (d (k + 1)) (d i)) (k + 1) = false) := e1 ▸ HM.out
          clear HM e1
          go_wp2
          go_roundw
          case rel => exact ⟨k + 1, by omega, by go_num, fun _ => anyTo_no (p := fun i => anyTo (fun k => stampB (d i) (d k)) i) (HN.out (by omega)) N1.out, hb⟩
          case measure => simp [intOf]; omega
    · have N1 : Hid (anyTo (fun i => anyTo (fun k => stampB (d i) (d k)) i) n = false) := by
        by_cases h0 : n = 0
        · subst h0; rfl
        · have e1 : k + 1 = n := by omega
          exact e1 ▸ HN.out (by omega)
      clear HN
      go_wp2
      go_ret
      exact ⟨ret_bool N1.out.symm, hb⟩
end Go.Proofs.Ytmafnghokmcijaa
