/- parcelref.numbered, walked. -/
import Derived.Test.YtmafnghokmcijaaB
namespace Go.Proofs.Ytmafnghokmcijaa
open Go.RowKit

set_option maxHeartbeats 4000000 in
theorem numbered_any (R : Rep) (a1 a2 a3 : Option Addr) (k1 k2 k3 : Nat) (w : World) (hR : Has w R a1 a2 a3) :
    Calls Try.prog 25 #[repV R a1 a2 a3 k1 k2 k3] w fun e w' => e = .returned (.bool (!R.numB)) ∧ Below w.heap.size w w' := by
  have b1 := hR.b1; have b2 := hR.b2; have b3 := hR.b3
  go_enter Try.func25, Try.ntmps25
  go_wp2
  go_loopw [3, 4] (fun v i wr => ∃ (k : Nat) (x : Bool), k ≤ R.n1 ∧ i = .int .i64 k ∧ v = .bool x ∧ (x = !anyTo R.num1 k) ∧ BoxR w R a1 a2 a3 k1 k2 k3 wr) (fun _ i _ => R.n1 - (intOf i).toNat)
  case atStart => exact ⟨0, true, Nat.zero_le _, rfl, rfl, rfl, Below.refl _ _⟩
  case round =>
    obtain ⟨k, x, hk, rfl, rfl, hx, hb⟩ := hrel
    obtain ⟨x1, x2, x3⟩ := box3 hb
    have HX : Hid (x = !anyTo R.num1 k) := hx
    clear hx
    by_cases hlt : k < R.n1
    · obtain ⟨b, o, hbl, hix, hs, hc⟩ := (hR.below (below_box hb)).l1.clock k1 hlt
      go_wp2_with (go_at_call 55; refine (within_out _ _ _).mono ?_; rintro e w' ⟨rfl, rfl⟩)
      all_goals
        go_roundw
        case rel =>
          refine ⟨k + 1, _, by omega, by go_num, rfl, ?_, hb⟩
          have h := HX.out
          simp only [anyTo, Rep.num1, scB]
          revert h
          simp [*]
          try (cases anyTo R.num1 k <;> simp [*])
        case measure => simp [intOf]; omega
    · have e1 : k = R.n1 := by omega
      have N1 : Hid (x = !anyTo R.num1 R.n1) := e1 ▸ HX.out
      clear HX e1
      go_wp2
      go_loopw [3, 7] (fun v i wr => ∃ (k : Nat) (x : Bool), k ≤ R.n2 ∧ i = .int .i64 k ∧ v = .bool x ∧ (x = !(anyTo R.num1 R.n1 || anyTo R.num2 k)) ∧ BoxR w R a1 a2 a3 k1 k2 k3 wr) (fun _ i _ => R.n2 - (intOf i).toNat)
      case atStart => exact ⟨0, x, Nat.zero_le _, rfl, rfl, by rw [N1.out]; simp [anyTo], hb⟩
      case round =>
        clear x1 x2 x3 hb hk hlt N1
        obtain ⟨k, x, hk, rfl, rfl, hx, hb⟩ := hrel
        obtain ⟨x1, x2, x3⟩ := box3 hb
        have HX : Hid (x = !(anyTo R.num1 R.n1 || anyTo R.num2 k)) := hx
        clear hx
        by_cases hlt : k < R.n2
        · obtain ⟨b, o, hbl, hix, hi, hs, hc, -, -⟩ := (hR.below (below_box hb)).l2.card k2 hlt
          go_wp2_with (go_at_call 55; refine (within_out _ _ _).mono ?_; rintro e w' ⟨rfl, rfl⟩)
          all_goals
            go_roundw
            case rel =>
              refine ⟨k + 1, _, by omega, by go_num, rfl, ?_, hb⟩
              have h := HX.out
              simp only [anyTo, Rep.num2, scB]
              revert h
              simp [*]
              try (cases anyTo R.num1 R.n1 <;> cases anyTo R.num2 k <;> simp [*])
            case measure => simp [intOf]; omega
        · have e1 : k = R.n2 := by omega
          have N1 : Hid (x = !(anyTo R.num1 R.n1 || anyTo R.num2 R.n2)) := e1 ▸ HX.out
          clear HX e1
          go_wp2
          go_loopw [3, 11] (fun v i wr => ∃ (k : Nat) (x : Bool), k ≤ R.n3 ∧ i = .int .i64 k ∧ v = .bool x ∧ (x = !(anyTo R.num1 R.n1 || (anyTo R.num2 R.n2 || anyTo R.num3 k))) ∧ BoxR w R a1 a2 a3 k1 k2 k3 wr) (fun _ i _ => R.n3 - (intOf i).toNat)
          case atStart => exact ⟨0, x, Nat.zero_le _, rfl, rfl, by rw [N1.out]; simp [anyTo], hb⟩
          case round =>
            clear x1 x2 x3 hb hk hlt N1
            obtain ⟨k, x, hk, rfl, rfl, hx, hb⟩ := hrel
            obtain ⟨x1, x2, x3⟩ := box3 hb
            have HX : Hid (x = !(anyTo R.num1 R.n1 || (anyTo R.num2 R.n2 || anyTo R.num3 k))) := hx
            clear hx
            by_cases hlt : k < R.n3
            · obtain ⟨b, o, hbl, hix, hi, -⟩ := (hR.below (below_box hb)).l3.edit k3 hlt
              go_wp2_with (go_at_call 55; refine (within_out _ _ _).mono ?_; rintro e w' ⟨rfl, rfl⟩)
              all_goals
                go_roundw
                case rel =>
                  refine ⟨k + 1, _, by omega, by go_num, rfl, ?_, hb⟩
                  have h := HX.out
                  simp only [anyTo, Rep.num3]
                  revert h
                  simp [*]
                  try (cases anyTo R.num1 R.n1 <;> cases anyTo R.num2 R.n2 <;> cases anyTo R.num3 k <;> simp [*])
                case measure => simp [intOf]; omega
            · have e1 : k = R.n3 := by omega
              have N1 : Hid (x = !(anyTo R.num1 R.n1 || (anyTo R.num2 R.n2 || anyTo R.num3 R.n3))) := e1 ▸ HX.out
              clear HX e1
              go_wp2
              go_ret
              exact ⟨ret_bool N1.out, below_box hb⟩
end Go.Proofs.Ytmafnghokmcijaa
