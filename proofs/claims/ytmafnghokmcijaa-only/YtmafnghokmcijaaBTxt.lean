/- sound.wrongText, walked. -/
import Derived.Test.YtmafnghokmcijaaB
namespace Go.Proofs.Ytmafnghokmcijaa
open Go.RowKit

set_option maxHeartbeats 2000000 in
theorem wrongText_any (R : Rep) (a1 a2 a3 : Option Addr) (k1 k2 k3 : Nat) (w : World) (hR : Has w R a1 a2 a3) :
    Calls Try.prog 51 #[repV R a1 a2 a3 k1 k2 k3] w fun e w' => e = .returned (.bool R.txtB) ∧ Below w.heap.size w w' := by
  have b1 := hR.b1; have b2 := hR.b2; have b3 := hR.b3
  go_enter Try.func51, Try.ntmps51
  go_wp2
  go_loopw [3] (fun i wr => ∃ k : Nat, k ≤ R.n2 ∧ i = .int .i64 k ∧ anyTo R.txt2 k = false ∧ BoxR w R a1 a2 a3 k1 k2 k3 wr) (fun i _ => R.n2 - (intOf i).toNat)
  case atStart => exact ⟨0, Nat.zero_le _, rfl, rfl, Below.refl _ _⟩
  case round =>
    obtain ⟨k, hk, rfl, hno, hb⟩ := hrel
    obtain ⟨x1, x2, x3⟩ := box3 hb
    have HN : Hid (anyTo R.txt2 k = false) := hno
    clear hno
    by_cases hlt : k < R.n2
    · obtain ⟨b, o, hbl, hix, -, -, -, hg, ht⟩ := (hR.below (below_box hb)).l2.card k2 hlt
      go_wp2
      · have hp : R.txt2 k = true := by unfold Rep.txt2 longB; simp [‹(60 : Int) < ((R.d k).text.size : Int)›]
        go_ret
        exact ⟨ret_bool (by simp [Rep.txtB, anyTo_hit hlt hp]), below_box hb⟩
      · have hp : R.txt2 k = true := by unfold Rep.txt2; simp only [‹(R.d k).gone = true›, ‹(!(R.d k).text.toList.isEmpty) = true›]; simp
        go_ret
        exact ⟨ret_bool (by simp [Rep.txtB, anyTo_hit hlt hp]), below_box hb⟩
      · have hp : R.txt2 k = false := by
          have h1 : ((R.d k).text.size : Int) ≤ 60 := by assumption
          unfold Rep.txt2 longB; simp only [‹(!(R.d k).text.toList.isEmpty) = false›]; simp; omega
        go_roundw
        case rel => exact ⟨k + 1, by omega, by go_num, anyTo_no HN.out hp, hb⟩
        case measure => simp [intOf]; omega
      · have hp : R.txt2 k = false := by
          have h1 : ((R.d k).text.size : Int) ≤ 60 := by assumption
          have h2 : ¬ (R.d k).gone = true := by assumption
          unfold Rep.txt2 longB; simp [h2]; omega
        go_roundw
        case rel => exact ⟨k + 1, by omega, by go_num, anyTo_no HN.out hp, hb⟩
        case measure => simp [intOf]; omega
    · have e1 : k = R.n2 := by omega
      have N1 : Hid (anyTo R.txt2 R.n2 = false) := e1 ▸ HN.out
      clear HN e1
      go_wp2
      go_loopw [4] (fun i wr => ∃ k : Nat, k ≤ R.n3 ∧ i = .int .i64 k ∧ anyTo R.txt3 k = false ∧ BoxR w R a1 a2 a3 k1 k2 k3 wr) (fun i _ => R.n3 - (intOf i).toNat)
      case atStart => exact ⟨0, Nat.zero_le _, rfl, rfl, hb⟩
      case round =>
        clear x1 x2 x3 hb hk
        obtain ⟨k, hk, rfl, hno, hb⟩ := hrel
        obtain ⟨x1, x2, x3⟩ := box3 hb
        have HN : Hid (anyTo R.txt3 k = false) := hno
        clear hno
        by_cases hlt : k < R.n3
        · obtain ⟨b, o, hbl, hix, -, ht⟩ := (hR.below (below_box hb)).l3.edit k3 hlt
          go_wp2
          · have hp : R.txt3 k = true := by unfold Rep.txt3 longB; simp [‹(60 : Int) < ((R.e k).text.size : Int)›]
            go_ret
            exact ⟨ret_bool (by simp [Rep.txtB, anyTo_hit hlt hp]), below_box hb⟩
          · have hp : R.txt3 k = false := by
              have h1 : ((R.e k).text.size : Int) ≤ 60 := by assumption
              unfold Rep.txt3 longB; simp; omega
            go_roundw
            case rel => exact ⟨k + 1, by omega, by go_num, anyTo_no HN.out hp, hb⟩
            case measure => simp [intOf]; omega
        · have e1 : k = R.n3 := by omega
          have N2 : Hid (anyTo R.txt3 R.n3 = false) := e1 ▸ HN.out
          clear HN e1
          go_wp2
          go_ret
          exact ⟨ret_bool (by simp [Rep.txtB, N1.out, N2.out]), below_box hb⟩


end Go.Proofs.Ytmafnghokmcijaa
