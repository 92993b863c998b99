/- The reference's long division, walked. -/
import Derived.Test.YtmafnghokmcijaaO
import Derived.Test.YtmafnghokmcijaaLP
namespace Go.Proofs.Ytmafnghokmcijaa
open Go.RowKit

/-- Element i of a list of bools. -/
theorem Vec.boolAt {w : World} {B : Nat} {ad : Option Addr} {n cap : Nat} {L : List Bool} (h : Vec w B 4 1 ad n cap (L.map Value.bool)) (i : Nat) (x : Bool) (hx : L[i]? = some x) (N : Int) (hN : N = (i : Int)) :
    ∃ b o, B ≤ b ∧ b < w.heap.size ∧ (∀ w', (Instr.indexAt 120 (.slice ad n cap) (.int .i64 N)).run Try.prog w' = .ok (.pointer (some ⟨b, o, none⟩)) w') ∧
      w.cell? ⟨b, o, none⟩ = some (.bool x) ∧ w.frozen? ⟨b, o, none⟩ = false ∧ (∀ y, Vec (w.setCell ⟨b, o, none⟩ (.bool y)) B 4 1 ad n cap ((L.set i y).map Value.bool)) := by
  have hi : i < n := by
    have h1 := h.length
    have h2 : i < L.length := by
      rcases Nat.lt_or_ge i L.length with h | h
      · exact h
      · rw [List.getElem?_eq_none h] at hx; cases hx
    simp at h1; omega
  obtain ⟨b, o, hB, hl, hix, hc, hf, hs⟩ := h.at (P := Try.prog) (t := 120) (by kernel_rfl) (by kernel_rfl) hi N hN
  refine ⟨b, o, hB, hl, hix, ?_, ?_, fun y => ?_⟩
  · have := hc 0 (by omega)
    rw [Nat.add_zero, Nat.mul_one, Nat.add_zero, List.getElem?_map, hx] at this
    exact this
  · have := hf 0
    rwa [Nat.add_zero] at this
  · have := hs 0 (.bool y)
    rw [Nat.add_zero, Nat.mul_one, Nat.add_zero] at this
    rw [List.map_set]; exact this

/-- A list by its places. -/
def Fun (L : List Bool) (N a : Nat) (F : Nat → Bool) : Prop := L.length = N ∧ ∀ t, a ≤ t → t < N → L[t]? = some (F t)
theorem Fun.set {L : List Bool} {N a : Nat} {F G : Nat → Bool} (h : Fun L N a F) (i : Nat) (y : Bool) (hi : i < N) (hG : ∀ t, a ≤ t → t < N → G t = if t = i then y else F t) : Fun (L.set i y) N a G := by
  refine ⟨by simpa using h.1, fun t ha ht => ?_⟩
  rw [hG t ha ht]
  have := h.1
  by_cases e : t = i
  · subst e; rw [List.getElem?_set_self (by omega), if_pos rfl]
  · rw [List.getElem?_set_ne (fun h => e h.symm), if_neg e]; exact h.2 t ha ht

theorem fun_start (m : List Bool) : Fun (m ++ List.replicate 32 false) (m.length + 32) 0 (fun t => decide (t < 0) != msg m t) := by
  refine ⟨by simp, fun t _ ht => ?_⟩
  unfold msg
  by_cases h : t < m.length
  · rw [List.getElem?_append_left h]; simp [List.getD, List.getElem?_eq_getElem h]
  · rw [List.getElem?_append_right (by omega), List.getElem?_replicate, if_pos (by omega)]
    simp [List.getD, List.getElem?_eq_none (show m.length ≤ t by omega)]

set_option maxRecDepth 100000 in
set_option maxHeartbeats 8000000 in
theorem left_any (s : List UInt8) (p : Nat) (w : World) (hs : s.length ≤ 8796093022208) (hp : p < 4294967296) :
    Calls Try.prog 86 #[.string (str s), .int .i64 (p : Int)] w fun e w' => e = .returned (.int .i64 ((crc p s : Nat) : Int)) ∧ Below w.heap.size w w' := by
  go_enter Try.func86, Try.ntmps86
  go_wp2_with fail
  refine (bits_any s _ hs).mono ?_
  rintro e w1 ⟨ad, cap, rfl, hv, hb⟩
  have hlen := allBits_length s
  have hcrc : crc p s = crcB p 4294967295 (allBits s) ^^^ 4294967295 := rfl
  have HC : Hid (crc p s = crcB p 4294967295 (allBits s) ^^^ 4294967295) := hcrc
  clear hcrc
  generalize allBits s = m at *
  have hn8 : 8 * s.length ≤ 70368744177664 := by omega
  generalize 8 * s.length = n at *
  have HL : Hid (m.length = n) := hlen
  clear hlen
  go_wp2_with fail
  go_loopw [5, 7] (fun u v wr => ∃ (k : Nat) (ad : Option Addr) (cap N : Nat), k ≤ 32 ∧ v = .int .i64 k ∧ u = .slice ad N cap ∧ N = n + k ∧ Vec wr w.heap.size 4 1 ad N cap ((m ++ List.replicate k false).map Value.bool) ∧ Below w.heap.size w wr) (fun _ v _ => 32 - (intOf v).toNat)
  case atStart => exact ⟨0, ad, cap, n, by omega, rfl, rfl, rfl, by simpa using hv, hb⟩
  case round =>
    clear hv hb
    obtain ⟨k, ad, cap, N, hk, rfl, rfl, hN, hv, hb⟩ := hrel
    have HN : Hid (N = n + k) := hN
    have hNb : N ≤ 70368744177664 + 32 := by omega
    clear hN
    have hz := hb.size
    by_cases hlt : k < 32
    · go_wp2_with (at_builtin; refine wpList_push (by rfl) _ _ 120 (by rfl) w.heap.size 4 1 1 (.bool false) Try.underlying120 (by kernel_rfl) rfl (by decide) ad N cap _ (by rfl) (hv.keep ((Below.refl _ _).alloc (Nat.le_refl _) _)) _ _ [.bool false] (by rfl) rfl ?_ ?_ ?_ ?_ ?_ ?_; exact new_cells _ _ _; (simp [Value.oneCell']); (omega); (omega); (simp; omega); intro ad' cap' w' hv' hb' hs')
      have hb2 : Below w.heap.size w w' := hb.trans (((Below.refl _ wr).alloc (Nat.le_refl _) _).mono hz |>.trans hb')
      have hv2 : Vec w' w.heap.size 4 1 ad' (N + 1) cap' ((m ++ List.replicate (k + 1) false).map Value.bool) := by
        rw [List.replicate_succ', ← List.append_assoc, List.map_append]; exact hv'
      go_roundw
      case rel => exact ⟨k + 1, ad', cap', N + 1, by omega, by go_num, rfl, by have := HN.out; omega, hv2, hb2⟩
      case measure => simp [intOf]; omega
    · have e1 : k = 32 := by omega
      subst e1
      have hF : ∃ L, Vec wr w.heap.size 4 1 ad N cap (L.map Value.bool) ∧ Fun L N 0 (fun t => decide (t < 0) != msg m t) :=
        ⟨_, hv, by have := fun_start m; rw [HL.out, ← HN.out] at this; exact this⟩
      clear hv hlt
      go_wp2_with fail
      go_loopw [8] (fun v wr => ∃ (k : Nat) (L : List Bool), k ≤ 32 ∧ v = .int .i64 k ∧ Vec wr w.heap.size 4 1 ad N cap (L.map Value.bool) ∧ Fun L N 0 (fun t => decide (t < k) != msg m t) ∧ Below w.heap.size w wr) (fun v _ => 32 - (intOf v).toNat)
      case atStart =>
        obtain ⟨L, hL, hF⟩ := hF
        exact ⟨0, L, by omega, rfl, hL, hF, hb⟩
      case round =>
        clear hF hb hz hk
        obtain ⟨k, L, hk, rfl, hv, hF, hb⟩ := hrel
        have HF : Hid (Fun L N 0 (fun t => decide (t < k) != msg m t)) := hF
        clear hF
        by_cases hlt : k < 32
        · have hkN : k < N := by have := HN.out; omega
          have hxk : L[k]? = some (msg m k) := by have := HF.out.2 k (by omega) hkN; simpa using this
          generalize hx : msg m k = x at hxk
          have HX : Hid (msg m k = x) := hx
          clear hx
          obtain ⟨b, o, hB, hl, hix, hc, hf, hst⟩ := hv.boolAt k x hxk (k : Int) rfl
          have HS : Hid (∀ y, Vec (wr.setCell ⟨b, o, none⟩ (.bool y)) w.heap.size 4 1 ad N cap ((L.set k y).map Value.bool)) := hst
          clear hst hxk
          go_wp2_with fail
          go_roundw
          case rel =>
            refine ⟨k + 1, L.set k (!x), by omega, by go_num, HS.out _, HF.out.set k (!x) hkN fun t _ _ => ?_, hb.setCell hB _⟩
            by_cases e : t = k
            · subst e; rw [if_pos rfl, HX.out]; simp
            · rw [if_neg e]; congr 1; rw [Bool.eq_iff_iff]; simp; omega
          case measure => simp [intOf]; omega
        · have e1 : k = 32 := by omega
          subst e1
          have hF2 : Fun L N 0 (lfun p m 0) := ⟨HF.out.1, fun t h1 h2 => by rw [lfun_start]; exact HF.out.2 t h1 h2⟩
          have HF2 : Hid (Fun L N 0 (lfun p m 0)) := hF2
          clear hF2 HF hlt
          go_wp2_with fail
          go_loopw [9, 10] (fun v _ wr => ∃ (i : Nat) (L : List Bool), i ≤ n ∧ v = .int .i64 i ∧ Vec wr w.heap.size 4 1 ad N cap (L.map Value.bool) ∧ Fun L N i (lfun p m i) ∧ Below w.heap.size w wr) (fun v _ _ => n - (intOf v).toNat)
          case atStart => exact ⟨0, L, by omega, rfl, hv, HF2.out, hb⟩
          case round =>
            clear HF2 hv hb hk
            obtain ⟨i, L, hi, rfl, hv, hF, hb⟩ := hrel
            have HF : Hid (Fun L N i (lfun p m i)) := hF
            clear hF
            by_cases hlt : i < n
            · have hiN : i < N := by have := HN.out; omega
              have hxk : L[i]? = some (lfun p m i i) := HF.out.2 i (by omega) hiN
              obtain ⟨b, o, hB, hl, hix, hc, hf, hst⟩ := hv.boolAt i _ hxk (i : Int) rfl
              have HS : Hid (∀ y, Vec (wr.setCell ⟨b, o, none⟩ (.bool y)) w.heap.size 4 1 ad N cap ((L.set i y).map Value.bool)) := hst
              have him : i < m.length := by rw [HL.out]; exact hlt
              have hd1 : decide ((i : Int) < (n : Int)) = true := by simp; omega
              clear hst hxk
              cases htop : lfun p m i i
              · have hF2 : Fun L N (i + 1) (lfun p m (i + 1)) := ⟨HF.out.1, fun t h1 h2 => by rw [lfun_no p m i t him (by omega) htop]; exact HF.out.2 t (by omega) h2⟩
                have HF2 : Hid (Fun L N (i + 1) (lfun p m (i + 1))) := hF2
                clear hF2 HF HS
                rw [htop] at hc
                clear htop
                go_wp2_with fail
                go_roundw
                case rel => exact ⟨i + 1, L, by omega, by go_num, hv, HF2.out, hb⟩
                case measure => simp [intOf]; omega
              · rw [htop] at hc
                have hF2 : Fun (L.set i false) N (i + 1) (gfun p m i 0) := ⟨by simpa using HF.out.1, fun t h1 h2 => by rw [List.getElem?_set_ne (by omega), gfun_start]; exact HF.out.2 t (by omega) h2⟩
                have HF2 : Hid (Fun (L.set i false) N (i + 1) (gfun p m i 0)) := hF2
                have HT : Hid (lfun p m i i = true) := htop
                clear hF2 HF htop
                go_wp2_with fail
                go_loopw [10] (fun v wr => ∃ (k : Nat) (L : List Bool), k ≤ 32 ∧ v = .int .i64 k ∧ Vec wr w.heap.size 4 1 ad N cap (L.map Value.bool) ∧ Fun L N (i + 1) (gfun p m i k) ∧ Below w.heap.size w wr) (fun v _ => 32 - (intOf v).toNat)
                case atStart => exact ⟨0, L.set i false, by omega, rfl, HS.out false, HF2.out, hb.setCell hB _⟩
                case round =>
                  clear HF2 HS hv hb hix hc hf hl hB
                  obtain ⟨k, L, hk, rfl, hv, hF, hb⟩ := hrel
                  have HF : Hid (Fun L N (i + 1) (gfun p m i k)) := hF
                  clear hF
                  by_cases hlk : k < 32
                  · have hiN2 : i + 32 - k < N := by have := HN.out; omega
                    have hbt := bit_test p k (by omega)
                    have hxk : L[i + 32 - k]? = some (gfun p m i k (i + 32 - k)) := HF.out.2 _ (by omega) hiN2
                    obtain ⟨b, o, hB, hl, hix, hc, hf, hst⟩ := hv.boolAt (i + 32 - k) _ hxk ((i : Int) + 32 - (k : Int)) (by omega)
                    have HS : Hid (∀ y, Vec (wr.setCell ⟨b, o, none⟩ (.bool y)) w.heap.size 4 1 ad N cap ((L.set (i + 32 - k) y).map Value.bool)) := hst
                    clear hst hxk
                    cases hpk : p.testBit k
                    · rw [hpk] at hbt
                      have hF2 : Fun L N (i + 1) (gfun p m i (k + 1)) := ⟨HF.out.1, fun t h1 h2 => by rw [gfun_step p m i k t hlk, if_neg (by simp [hpk])]; exact HF.out.2 t h1 h2⟩
                      have HF2 : Hid (Fun L N (i + 1) (gfun p m i (k + 1))) := hF2
                      clear hF2 HF HS hpk
                      go_wp2_with fail
                      go_roundw
                      case rel => exact ⟨k + 1, L, by omega, by go_num, hv, HF2.out, hb⟩
                      case measure => simp [intOf]; omega
                    · rw [hpk] at hbt
                      have hF2 : Fun (L.set (i + 32 - k) (!gfun p m i k (i + 32 - k))) N (i + 1) (gfun p m i (k + 1)) := HF.out.set _ _ hiN2 fun t h1 h2 => by
                        rw [gfun_step p m i k t hlk]
                        by_cases e : t = i + 32 - k
                        · subst e; rw [if_pos ⟨rfl, hpk⟩, if_pos rfl]
                        · rw [if_neg (fun h => e h.1), if_neg e]
                      generalize gfun p m i k (i + 32 - k) = x at *
                      have HF2 : Hid (Fun (L.set (i + 32 - k) (!x)) N (i + 1) (gfun p m i (k + 1))) := hF2
                      clear hF2 HF hpk
                      go_wp2_with fail
                      go_roundw
                      case rel => exact ⟨k + 1, L.set (i + 32 - k) (!x), by omega, by go_num, HS.out _, HF2.out, hb.setCell hB _⟩
                      case measure => simp [intOf]; omega
                  · have e1 : k = 32 := by omega
                    subst e1
                    have hF2 : Fun L N (i + 1) (lfun p m (i + 1)) := ⟨HF.out.1, fun t h1 h2 => by rw [lfun_yes p m i t him (by omega) HT.out]; exact HF.out.2 t h1 h2⟩
                    have HF2 : Hid (Fun L N (i + 1) (lfun p m (i + 1))) := hF2
                    clear hF2 HF HT
                    go_wp2_with fail
                    go_roundw
                    case rel => exact ⟨i + 1, L, by omega, by go_num, hv, HF2.out, hb⟩
                    case measure => simp [intOf]; omega
            · have e1 : i = n := by omega
              subst e1
              generalize hX : crcB p 4294967295 m ^^^ 4294967295 = X at HC
              have hXlt : X < 4294967296 := by rw [← hX]; exact Nat.xor_lt_two_pow (n := 32) (crcB_lt hp _ (by omega)) (by omega)
              have hF2 : ∀ k, k < 32 → L[i + k]? = some (!X.testBit (31 - k)) := fun k hk => by
                have h1 := HF.out.2 (i + k) (by omega) (by have := HN.out; omega)
                have h2 := lfun_end p m k hk
                rw [HL.out] at h2
                rw [h1, h2, ← hX, not_bit _ _ hk]; simp
              have HF2 : Hid (∀ k, k < 32 → L[i + k]? = some (!X.testBit (31 - k))) := hF2
              clear hF2 HF hX HL hlt
              go_wp2_with fail
              go_loopw [11, 12] (fun v u wr => ∃ (k V : Nat), k ≤ 32 ∧ u = .int .i64 k ∧ v = .int .i64 (V : Int) ∧ V = X / 2 ^ (32 - k) ∧ Vec wr w.heap.size 4 1 ad N cap (L.map Value.bool) ∧ Below w.heap.size w wr) (fun _ u _ => 32 - (intOf u).toNat)
              case atStart => exact ⟨0, 0, by omega, rfl, rfl, by omega, hv, hb⟩
              case round =>
                clear hv hb
                obtain ⟨k, V, hk, rfl, rfl, hV, hv, hb⟩ := hrel
                have hVle : V ≤ 4294967296 := by rw [hV]; exact Nat.le_trans (Nat.div_le_self _ _) (by omega)
                have HV : Hid (V = X / 2 ^ (32 - k)) := hV
                clear hV
                by_cases hlk : k < 32
                · obtain ⟨b, o, hB, hl, hix, hc, hf, hst⟩ := hv.boolAt (i + k) _ (HF2.out k hlk) ((i : Int) + (k : Int)) (by omega)
                  clear hst
                  have hg := gather X k hlk
                  have HG : Hid (X / 2 ^ (32 - (k + 1)) = 2 * (X / 2 ^ (32 - k)) + (X.testBit (31 - k)).toNat) := hg
                  clear hg
                  cases hbit : X.testBit (31 - k)
                  · rw [hbit] at hc HG
                    simp only [Bool.not_false] at hc
                    clear hbit
                    go_wp2_with fail
                    go_roundw
                    case rel => exact ⟨k + 1, 2 * V, by omega, by go_num, by go_num, by rw [HG.out, HV.out]; rfl, hv, hb⟩
                    case measure => simp [intOf]; omega
                  · rw [hbit] at hc HG
                    simp only [Bool.not_true] at hc
                    clear hbit
                    go_wp2_with fail
                    go_roundw
                    case rel => exact ⟨k + 1, 2 * V + 1, by omega, by go_num, by go_num, by rw [HG.out, HV.out]; rfl, hv, hb⟩
                    case measure => simp [intOf]; omega
                · have e1 : k = 32 := by omega
                  subst e1
                  have e2 : V = crc p s := by rw [HC.out, HV.out]; simp
                  have E2 : Hid (V = crc p s) := e2
                  clear e2
                  go_wp2_with fail
                  go_ret
                  exact ⟨ret_int (by rw [E2.out]), hb⟩

set_option maxHeartbeats 1000000 in
theorem rsum_any (s : List UInt8) (w : World) (hs : s.length ≤ 8796093022208) :
    Calls Try.prog 85 #[.string (str s)] w fun e w' => e = .returned (.int .i64 ((crc pSum s : Nat) : Int)) ∧ Below w.heap.size w w' := by
  go_enter Try.func85, Try.ntmps85
  go_wp2_with fail
  refine (left_any s pSum _ hs (by decide)).mono ?_
  rintro e w' ⟨rfl, hb⟩
  go_wp2_with fail
  go_ret
  exact ⟨rfl, hb⟩
set_option maxHeartbeats 1000000 in
theorem rseal_any (s : List UInt8) (w : World) (hs : s.length ≤ 8796093022208) :
    Calls Try.prog 62 #[.string (str s)] w fun e w' => e = .returned (.int .i64 ((crc pSeal s : Nat) : Int)) ∧ Below w.heap.size w w' := by
  go_enter Try.func62, Try.ntmps62
  go_wp2_with fail
  refine (left_any s pSeal _ hs (by decide)).mono ?_
  rintro e w' ⟨rfl, hb⟩
  go_wp2_with fail
  go_ret
  exact ⟨rfl, hb⟩
end Go.Proofs.Ytmafnghokmcijaa
