/- Texts of the proof, one behind the other; what each holds is said at its head. -/
import Derived.Test.YtdjpkgaicmklmaaGreatPartExtendsupto1
import Derived.Deep.RegionHeld3
import Derived.Test.YtdjpkgaicmklmaaGreatPartExtendsupto0
import Derived.OwnWalk
import Derived.Laws.Rows
/- The reference's long division, walked. -/
namespace Go.Proofs.YtdjpkgaicmklmaaGreat
open Go.RowKit

/-- Element i of a list of bools. -/
theorem Vec.boolAt {w : World} {B : Nat} {ad : Option Addr} {n cap : Nat} {L : List Bool} (h : Vec w B 4 1 ad n cap (L.map Value.bool)) (i : Nat) (x : Bool) (hx : L[i]? = some x) (N : Int) (hN : N = (i : Int)) :
    ∃ b o, B ≤ b ∧ b < w.heap.size ∧ (∀ w', (Instr.indexAt 101 (.slice ad n cap) (.int .i64 N)).run Tryz.prog w' = .ok (.pointer (some ⟨b, o, none⟩)) w') ∧
      w.cell? ⟨b, o, none⟩ = some (.bool x) ∧ w.frozen? ⟨b, o, none⟩ = false ∧ (∀ y, Vec (w.setCell ⟨b, o, none⟩ (.bool y)) B 4 1 ad n cap ((L.set i y).map Value.bool)) := by
  have hi : i < n := by
    have h1 := h.length
    have h2 : i < L.length := by
      rcases Nat.lt_or_ge i L.length with h | h
      · exact h
      · rw [List.getElem?_eq_none h] at hx; cases hx
    simp at h1; omega
  obtain ⟨b, o, hB, hl, hix, hc, hf, hs⟩ := h.at (P := Tryz.prog) (t := 101) (by kernel_rfl) (by kernel_rfl) hi N hN
  refine ⟨b, o, hB, hl, hix, ?_, ?_, fun y => ?_⟩
  · have := hc 0 (by omega)
    rw [Nat.add_zero, Nat.mul_one, Nat.add_zero, List.getElem?_map, hx] at this
    exact this
  · have := hf 0
    rwa [Nat.add_zero] at this
  · have := hs 0 (.bool y)
    rw [Nat.add_zero, Nat.mul_one, Nat.add_zero] at this
    rw [List.map_set]; exact this

/-- A list by its places. -/
def Fun (L : List Bool) (N a : Nat) (F : Nat → Bool) : Prop := L.length = N ∧ ∀ t, a ≤ t → t < N → L[t]? = some (F t)
theorem Fun.set {L : List Bool} {N a : Nat} {F G : Nat → Bool} (h : Fun L N a F) (i : Nat) (y : Bool) (hi : i < N) (hG : ∀ t, a ≤ t → t < N → G t = if t = i then y else F t) : Fun (L.set i y) N a G := by
  refine ⟨by simpa using h.1, fun t ha ht => ?_⟩
  rw [hG t ha ht]
  have := h.1
  by_cases e : t = i
  · subst e; rw [List.getElem?_set_self (by omega), if_pos rfl]
  · rw [List.getElem?_set_ne (fun h => e h.symm), if_neg e]; exact h.2 t ha ht

theorem fun_start (m : List Bool) : Fun (m ++ List.replicate 32 false) (m.length + 32) 0 (fun t => decide (t < 0) != msg m t) := by
  refine ⟨by simp, fun t _ ht => ?_⟩
  unfold msg
  by_cases h : t < m.length
  · rw [List.getElem?_append_left h]; simp [List.getD, List.getElem?_eq_getElem h]
  · rw [List.getElem?_append_right (by omega), List.getElem?_replicate, if_pos (by omega)]
    simp [List.getD, List.getElem?_eq_none (show m.length ≤ t by omega)]

set_option maxRecDepth 100000 in
set_option maxHeartbeats 8000000 in
theorem left_any (s : List UInt8) (p : Nat) (w : World) (hs : s.length ≤ 8796093022208) (hp : p < 4294967296) :
    Calls Tryz.prog 62 #[.string (str s), .int .i64 (p : Int)] w fun e w' => e = .returned (.int .i64 ((crc p s : Nat) : Int)) ∧ Below w.heap.size w w' := by
  go_enter Tryz.func62, Tryz.ntmps62
  go_wp2_with fail
  refine (bits_any s _ hs).mono ?_
  rintro e w1 ⟨ad, cap, rfl, hv, hb⟩
  have hlen := allBits_length s
  have hcrc : crc p s = crcB p 4294967295 (allBits s) ^^^ 4294967295 := rfl
  have HC : Hid (crc p s = crcB p 4294967295 (allBits s) ^^^ 4294967295) := hcrc
  clear hcrc
  generalize allBits s = m at *
  have hn8 : 8 * s.length ≤ 70368744177664 := by omega
  generalize 8 * s.length = n at *
  have HL : Hid (m.length = n) := hlen
  clear hlen
  go_wp2_with fail
  go_loopw [5, 7] (fun u v wr => ∃ (k : Nat) (ad : Option Addr) (cap N : Nat), k ≤ 32 ∧ v = .int .i64 k ∧ u = .slice ad N cap ∧ N = n + k ∧ Vec wr w.heap.size 4 1 ad N cap ((m ++ List.replicate k false).map Value.bool) ∧ Below w.heap.size w wr) (fun _ v _ => 32 - (intOf v).toNat)
  case atStart => exact ⟨0, ad, cap, n, by omega, rfl, rfl, rfl, by simpa using hv, hb⟩
  case round =>
    clear hv hb
    obtain ⟨k, ad, cap, N, hk, rfl, rfl, hN, hv, hb⟩ := hrel
    have HN : Hid (N = n + k) := hN
    have hNb : N ≤ 70368744177664 + 32 := by omega
    clear hN
    have hz := hb.size
    by_cases hlt : k < 32
    · go_wp2_with (at_builtin; refine wpList_push (by rfl) _ _ 101 (by rfl) w.heap.size 4 1 1 (.bool false) Tryz.underlying101 (by kernel_rfl) rfl (by decide) ad N cap _ (by rfl) (hv.keep ((Below.refl _ _).alloc (Nat.le_refl _) _)) _ _ [.bool false] (by rfl) rfl ?_ ?_ ?_ ?_ ?_ ?_; exact new_cells _ _ _; (simp [Value.oneCell']); (omega); (omega); (simp; omega); intro ad' cap' w' hv' hb' hs')
      have hb2 : Below w.heap.size w w' := hb.trans (((Below.refl _ wr).alloc (Nat.le_refl _) _).mono hz |>.trans hb')
      have hv2 : Vec w' w.heap.size 4 1 ad' (N + 1) cap' ((m ++ List.replicate (k + 1) false).map Value.bool) := by
        rw [List.replicate_succ', ← List.append_assoc, List.map_append]; exact hv'
      go_roundw
      case rel => exact ⟨k + 1, ad', cap', N + 1, by omega, by go_num, rfl, by have := HN.out; omega, hv2, hb2⟩
      case measure => simp [intOf]; omega
    · have e1 : k = 32 := by omega
      subst e1
      have hF : ∃ L, Vec wr w.heap.size 4 1 ad N cap (L.map Value.bool) ∧ Fun L N 0 (fun t => decide (t < 0) != msg m t) :=
        ⟨_, hv, by have := fun_start m; rw [HL.out, ← HN.out] at this; exact this⟩
      clear hv hlt
      go_wp2_with fail
      go_loopw [8] (fun v wr => ∃ (k : Nat) (L : List Bool), k ≤ 32 ∧ v = .int .i64 k ∧ Vec wr w.heap.size 4 1 ad N cap (L.map Value.bool) ∧ Fun L N 0 (fun t => decide (t < k) != msg m t) ∧ Below w.heap.size w wr) (fun v _ => 32 - (intOf v).toNat)
      case atStart =>
        obtain ⟨L, hL, hF⟩ := hF
        exact ⟨0, L, by omega, rfl, hL, hF, hb⟩
      case round =>
        clear hF hb hz hk
        obtain ⟨k, L, hk, rfl, hv, hF, hb⟩ := hrel
        have HF : Hid (Fun L N 0 (fun t => decide (t < k) != msg m t)) := hF
        clear hF
        by_cases hlt : k < 32
        · have hkN : k < N := by have := HN.out; omega
          have hxk : L[k]? = some (msg m k) := by have := HF.out.2 k (by omega) hkN; simpa using this
          generalize hx : msg m k = x at hxk
          have HX : Hid (msg m k = x) := hx
          clear hx
          obtain ⟨b, o, hB, hl, hix, hc, hf, hst⟩ := hv.boolAt k x hxk (k : Int) rfl
          have HS : Hid (∀ y, Vec (wr.setCell ⟨b, o, none⟩ (.bool y)) w.heap.size 4 1 ad N cap ((L.set k y).map Value.bool)) := hst
          clear hst hxk
          go_wp2_with fail
          go_roundw
          case rel =>
            refine ⟨k + 1, L.set k (!x), by omega, by go_num, HS.out _, HF.out.set k (!x) hkN fun t _ _ => ?_, hb.setCell hB _⟩
            by_cases e : t = k
            · subst e; rw [if_pos rfl, HX.out]; simp
            · rw [if_neg e]; congr 1; rw [Bool.eq_iff_iff]; simp; omega
          case measure => simp [intOf]; omega
        · have e1 : k = 32 := by omega
          subst e1
          have hF2 : Fun L N 0 (lfun p m 0) := ⟨HF.out.1, fun t h1 h2 => by rw [lfun_start]; exact HF.out.2 t h1 h2⟩
          have HF2 : Hid (Fun L N 0 (lfun p m 0)) := hF2
          clear hF2 HF hlt
          go_wp2_with fail
          go_loopw [9, 10] (fun v _ wr => ∃ (i : Nat) (L : List Bool), i ≤ n ∧ v = .int .i64 i ∧ Vec wr w.heap.size 4 1 ad N cap (L.map Value.bool) ∧ Fun L N i (lfun p m i) ∧ Below w.heap.size w wr) (fun v _ _ => n - (intOf v).toNat)
          case atStart => exact ⟨0, L, by omega, rfl, hv, HF2.out, hb⟩
          case round =>
            clear HF2 hv hb hk
            obtain ⟨i, L, hi, rfl, hv, hF, hb⟩ := hrel
            have HF : Hid (Fun L N i (lfun p m i)) := hF
            clear hF
            by_cases hlt : i < n
            · have hiN : i < N := by have := HN.out; omega
              have hxk : L[i]? = some (lfun p m i i) := HF.out.2 i (by omega) hiN
              obtain ⟨b, o, hB, hl, hix, hc, hf, hst⟩ := hv.boolAt i _ hxk (i : Int) rfl
              have HS : Hid (∀ y, Vec (wr.setCell ⟨b, o, none⟩ (.bool y)) w.heap.size 4 1 ad N cap ((L.set i y).map Value.bool)) := hst
              have him : i < m.length := by rw [HL.out]; exact hlt
              have hd1 : decide ((i : Int) < (n : Int)) = true := by simp; omega
              clear hst hxk
              cases htop : lfun p m i i
              · have hF2 : Fun L N (i + 1) (lfun p m (i + 1)) := ⟨HF.out.1, fun t h1 h2 => by rw [lfun_no p m i t him (by omega) htop]; exact HF.out.2 t (by omega) h2⟩
                have HF2 : Hid (Fun L N (i + 1) (lfun p m (i + 1))) := hF2
                clear hF2 HF HS
                rw [htop] at hc
                clear htop
                go_wp2_with fail
                go_roundw
                case rel => exact ⟨i + 1, L, by omega, by go_num, hv, HF2.out, hb⟩
                case measure => simp [intOf]; omega
              · rw [htop] at hc
                have hF2 : Fun (L.set i false) N (i + 1) (gfun p m i 0) := ⟨by simpa using HF.out.1, fun t h1 h2 => by rw [List.getElem?_set_ne (by omega), gfun_start]; exact HF.out.2 t (by omega) h2⟩
                have HF2 : Hid (Fun (L.set i false) N (i + 1) (gfun p m i 0)) := hF2
                have HT : Hid (lfun p m i i = true) := htop
                clear hF2 HF htop
                go_wp2_with fail
                go_loopw [10] (fun v wr => ∃ (k : Nat) (L : List Bool), k ≤ 32 ∧ v = .int .i64 k ∧ Vec wr w.heap.size 4 1 ad N cap (L.map Value.bool) ∧ Fun L N (i + 1) (gfun p m i k) ∧ Below w.heap.size w wr) (fun v _ => 32 - (intOf v).toNat)
                case atStart => exact ⟨0, L.set i false, by omega, rfl, HS.out false, HF2.out, hb.setCell hB _⟩
                case round =>
                  clear HF2 HS hv hb hix hc hf hl hB
                  obtain ⟨k, L, hk, rfl, hv, hF, hb⟩ := hrel
                  have HF : Hid (Fun L N (i + 1) (gfun p m i k)) := hF
                  clear hF
                  by_cases hlk : k < 32
                  · have hiN2 : i + 32 - k < N := by have := HN.out; omega
                    have hbt := bit_test p k (by omega)
                    have hxk : L[i + 32 - k]? = some (gfun p m i k (i + 32 - k)) := HF.out.2 _ (by omega) hiN2
                    obtain ⟨b, o, hB, hl, hix, hc, hf, hst⟩ := hv.boolAt (i + 32 - k) _ hxk ((i : Int) + 32 - (k : Int)) (by omega)
                    have HS : Hid (∀ y, Vec (wr.setCell ⟨b, o, none⟩ (.bool y)) w.heap.size 4 1 ad N cap ((L.set (i + 32 - k) y).map Value.bool)) := hst
                    clear hst hxk
                    cases hpk : p.testBit k
                    · rw [hpk] at hbt
                      have hF2 : Fun L N (i + 1) (gfun p m i (k + 1)) := ⟨HF.out.1, fun t h1 h2 => by rw [gfun_step p m i k t hlk, if_neg (by simp [hpk])]; exact HF.out.2 t h1 h2⟩
                      have HF2 : Hid (Fun L N (i + 1) (gfun p m i (k + 1))) := hF2
                      clear hF2 HF HS hpk
                      go_wp2_with fail
                      go_roundw
                      case rel => exact ⟨k + 1, L, by omega, by go_num, hv, HF2.out, hb⟩
                      case measure => simp [intOf]; omega
                    · rw [hpk] at hbt
                      have hF2 : Fun (L.set (i + 32 - k) (!gfun p m i k (i + 32 - k))) N (i + 1) (gfun p m i (k + 1)) := HF.out.set _ _ hiN2 fun t h1 h2 => by
                        rw [gfun_step p m i k t hlk]
                        by_cases e : t = i + 32 - k
                        · subst e; rw [if_pos ⟨rfl, hpk⟩, if_pos rfl]
                        · rw [if_neg (fun h => e h.1), if_neg e]
                      generalize gfun p m i k (i + 32 - k) = x at *
                      have HF2 : Hid (Fun (L.set (i + 32 - k) (!x)) N (i + 1) (gfun p m i (k + 1))) := hF2
                      clear hF2 HF hpk
                      go_wp2_with fail
                      go_roundw
                      case rel => exact ⟨k + 1, L.set (i + 32 - k) (!x), by omega, by go_num, HS.out _, HF2.out, hb.setCell hB _⟩
                      case measure => simp [intOf]; omega
                  · have e1 : k = 32 := by omega
                    subst e1
                    have hF2 : Fun L N (i + 1) (lfun p m (i + 1)) := ⟨HF.out.1, fun t h1 h2 => by rw [lfun_yes p m i t him (by omega) HT.out]; exact HF.out.2 t h1 h2⟩
                    have HF2 : Hid (Fun L N (i + 1) (lfun p m (i + 1))) := hF2
                    clear hF2 HF HT
                    go_wp2_with fail
                    go_roundw
                    case rel => exact ⟨i + 1, L, by omega, by go_num, hv, HF2.out, hb⟩
                    case measure => simp [intOf]; omega
            · have e1 : i = n := by omega
              subst e1
              generalize hX : crcB p 4294967295 m ^^^ 4294967295 = X at HC
              have hXlt : X < 4294967296 := by rw [← hX]; exact Nat.xor_lt_two_pow (n := 32) (crcB_lt hp _ (by omega)) (by omega)
              have hF2 : ∀ k, k < 32 → L[i + k]? = some (!X.testBit (31 - k)) := fun k hk => by
                have h1 := HF.out.2 (i + k) (by omega) (by have := HN.out; omega)
                have h2 := lfun_end p m k hk
                rw [HL.out] at h2
                rw [h1, h2, ← hX, not_bit _ _ hk]; simp
              have HF2 : Hid (∀ k, k < 32 → L[i + k]? = some (!X.testBit (31 - k))) := hF2
              clear hF2 HF hX HL hlt
              go_wp2_with fail
              go_loopw [11, 12] (fun v u wr => ∃ (k V : Nat), k ≤ 32 ∧ u = .int .i64 k ∧ v = .int .i64 (V : Int) ∧ V = X / 2 ^ (32 - k) ∧ Vec wr w.heap.size 4 1 ad N cap (L.map Value.bool) ∧ Below w.heap.size w wr) (fun _ u _ => 32 - (intOf u).toNat)
              case atStart => exact ⟨0, 0, by omega, rfl, rfl, by omega, hv, hb⟩
              case round =>
                clear hv hb
                obtain ⟨k, V, hk, rfl, rfl, hV, hv, hb⟩ := hrel
                have hVle : V ≤ 4294967296 := by rw [hV]; exact Nat.le_trans (Nat.div_le_self _ _) (by omega)
                have HV : Hid (V = X / 2 ^ (32 - k)) := hV
                clear hV
                by_cases hlk : k < 32
                · obtain ⟨b, o, hB, hl, hix, hc, hf, hst⟩ := hv.boolAt (i + k) _ (HF2.out k hlk) ((i : Int) + (k : Int)) (by omega)
                  clear hst
                  have hg := gather X k hlk
                  have HG : Hid (X / 2 ^ (32 - (k + 1)) = 2 * (X / 2 ^ (32 - k)) + (X.testBit (31 - k)).toNat) := hg
                  clear hg
                  cases hbit : X.testBit (31 - k)
                  · rw [hbit] at hc HG
                    simp only [Bool.not_false] at hc
                    clear hbit
                    go_wp2_with fail
                    go_roundw
                    case rel => exact ⟨k + 1, 2 * V, by omega, by go_num, by go_num, by rw [HG.out, HV.out]; rfl, hv, hb⟩
                    case measure => simp [intOf]; omega
                  · rw [hbit] at hc HG
                    simp only [Bool.not_true] at hc
                    clear hbit
                    go_wp2_with fail
                    go_roundw
                    case rel => exact ⟨k + 1, 2 * V + 1, by omega, by go_num, by go_num, by rw [HG.out, HV.out]; rfl, hv, hb⟩
                    case measure => simp [intOf]; omega
                · have e1 : k = 32 := by omega
                  subst e1
                  have e2 : V = crc p s := by rw [HC.out, HV.out]; simp
                  have E2 : Hid (V = crc p s) := e2
                  clear e2
                  go_wp2_with fail
                  go_ret
                  exact ⟨ret_int (by rw [E2.out]), hb⟩

set_option maxHeartbeats 1000000 in
theorem rsum_any (s : List UInt8) (w : World) (hs : s.length ≤ 8796093022208) :
    Calls Tryz.prog 63 #[.string (str s)] w fun e w' => e = .returned (.int .i64 ((crc pSum s : Nat) : Int)) ∧ Below w.heap.size w w' := by
  go_enter Tryz.func63, Tryz.ntmps63
  go_wp2_with fail
  refine (left_any s pSum _ hs (by decide)).mono ?_
  rintro e w' ⟨rfl, hb⟩
  go_wp2_with fail
  go_ret
  exact ⟨rfl, hb⟩
set_option maxHeartbeats 1000000 in
theorem rseal_any (s : List UInt8) (w : World) (hs : s.length ≤ 8796093022208) :
    Calls Tryz.prog 32 #[.string (str s)] w fun e w' => e = .returned (.int .i64 ((crc pSeal s : Nat) : Int)) ∧ Below w.heap.size w w' := by
  go_enter Tryz.func32, Tryz.ntmps32
  go_wp2_with fail
  refine (left_any s pSeal _ hs (by decide)).mono ?_
  rintro e w' ⟨rfl, hb⟩
  go_wp2_with fail
  go_ret
  exact ⟨rfl, hb⟩
end Go.Proofs.YtdjpkgaicmklmaaGreat

/- A record's bytes and a frame: the reference's written and Frame, walked. -/
namespace Go.Proofs.YtdjpkgaicmklmaaGreat
open Go.RowKit
attribute [local go_sem] str_size str_append mk_append_str str_append_mk

abbrev BoxF (w : World) (f : Fd) (wr : World) : Prop := Below (w.heap.size + 1) (w.alloc (.cells f.cells.toArray 64)) wr
theorem SF {w : World} {f : Fd} {wr : World} (hb : BoxF w f wr) :
    wr.cell? ⟨w.heap.size, 1, none⟩ = some (.int .i64 f.kind) ∧ wr.cell? ⟨w.heap.size, 2, none⟩ = some (.int .i64 f.seq) ∧ wr.cell? ⟨w.heap.size, 3, none⟩ = some (.int .i64 f.base) ∧ wr.cell? ⟨w.heap.size, 4, none⟩ = some (.int .i64 f.id) ∧
    wr.cell? ⟨w.heap.size, 5, none⟩ = some (.int .i64 f.site) ∧ wr.cell? ⟨w.heap.size, 6, none⟩ = some (.int .i64 f.count) ∧ wr.cell? ⟨w.heap.size, 7, none⟩ = some (.bool f.gone) ∧ wr.cell? ⟨w.heap.size, 8, none⟩ = some (.string f.text) :=
  ⟨boxN hb 1, boxN hb 2, boxN hb 3, boxN hb 4, boxN hb 5, boxN hb 6, boxN hb 7, boxN hb 8⟩

theorem add_str {P : Program} (a b c : List UInt8) (hc : a ++ b = c) (h : c.length ≤ 9223372036854775807) (w : World) : (Op.stringOp .add (str a) (str b)).run P w = .ok (.string (str c)) w := by
  subst hc
  rw [← str_append]
  exact run_string_add_sum _ _ _ (by rw [str_size, str_size]; simpa using h)

set_option maxRecDepth 100000 in
set_option maxHeartbeats 4000000 in
theorem written_clock (c : Ck) (w : World) (h1 : Num c.site) (h2 : Num c.count) :
    Calls Tryz.prog 65 #[.agg (fdClock c).cells.toArray] w fun e w' => e = .returned (.string (str (recClock c))) ∧ Below w.heap.size w w' := by
  obtain ⟨p1, p2⟩ := h1
  obtain ⟨q1, q2⟩ := h2
  have l1 := numB_length c.site
  have l2 := numB_length c.count
  have E : Hid ((byt 1 :: (numB c.site ++ numB c.count)) = recClock c) := rfl
  have hb0 : BoxF w (fdClock c) (w.alloc (.cells (fdClock c).cells.toArray 64)) := Below.refl _ _
  have hbX : BoxF w (fdClock c) ((w.alloc (.cells (fdClock c).cells.toArray 64)).alloc (.cells #[.int .u8 1] 5)).drew := (hb0.alloc (by simp) _).drew
  have a1 := fun w' => add_str (P := Tryz.prog) [byt 1] (numB c.site) (byt 1 :: numB c.site) rfl (by simp; omega) w'
  have a2 := fun w' => add_str (P := Tryz.prog) (byt 1 :: numB c.site) (numB c.count) (byt 1 :: (numB c.site ++ numB c.count)) rfl (by simp; omega) w'
  unfold fdClock at *
  go_enter Tryz.func65, Tryz.ntmps65
  go_wp2_with (refine wpList_toString (by rfl) 90 9 5 _ (by rfl) Tryz.underlying90 Tryz.underlying5 Tryz.underlying9 _ _ _ (by rfl) [1] rfl ?_ ?_; exact new_cells2 _ _ _ _)
  go_region_held3 (fun w' => w'.cell? ⟨w.heap.size, 5, none⟩ = some (.int .i64 c.site) ∧ w'.cell? ⟨w.heap.size, 6, none⟩ = some (.int .i64 c.count))
    (first | (go_keep; done) | (exact ⟨boxN hbX 5, boxN hbX 6⟩))
    (first | (go_at_call 84; refine (rnumber_any _ _ (by first | exact p1 | exact q1) (by first | exact p2 | exact q2)).mono ?_; rintro e w' ⟨rfl, hb2⟩; have hbX := box_step hbX hb2))
  clear a1 a2
  go_wp2_with fail
  go_ret
  exact ⟨ret_str E.out, box_old hbX⟩

set_option maxRecDepth 100000 in
set_option maxHeartbeats 4000000 in
theorem written_edit (c : Ed) (w : World) (h1 : Num c.id) (ht : c.text.size ≤ 1000000) :
    Calls Tryz.prog 65 #[.agg (fdEdit c).cells.toArray] w fun e w' => e = .returned (.string (str (recEdit c))) ∧ Below w.heap.size w w' := by
  obtain ⟨p1, p2⟩ := h1
  obtain ⟨t, htt⟩ : ∃ t, c.text = str t := ⟨c.text.data.toList, (str_data _).symm⟩
  have E : Hid ((byt 3 :: (numB c.id ++ t)) = recEdit c) := by show _ = _; unfold recEdit; rw [htt]; rfl
  unfold fdEdit
  rw [htt] at ht ⊢
  rw [str_size] at ht
  have l1 := numB_length c.id
  have hb0 : BoxF w ⟨0, 3, 0, 0, c.id, 0, 0, false, str t⟩ (w.alloc (.cells (Fd.cells ⟨0, 3, 0, 0, c.id, 0, 0, false, str t⟩).toArray 64)) := Below.refl _ _
  have hbX : BoxF w ⟨0, 3, 0, 0, c.id, 0, 0, false, str t⟩ ((w.alloc (.cells (Fd.cells ⟨0, 3, 0, 0, c.id, 0, 0, false, str t⟩).toArray 64)).alloc (.cells #[.int .u8 3] 5)).drew := (hb0.alloc (by simp) _).drew
  have a1 := fun w' => add_str (P := Tryz.prog) [byt 3] (numB c.id) (byt 3 :: numB c.id) rfl (by simp; omega) w'
  have a2 := fun w' => add_str (P := Tryz.prog) (byt 3 :: numB c.id) t (byt 3 :: (numB c.id ++ t)) rfl (by simp; omega) w'
  clear htt
  go_enter Tryz.func65, Tryz.ntmps65
  go_wp2_with (refine wpList_toString (by rfl) 90 9 5 _ (by rfl) Tryz.underlying90 Tryz.underlying5 Tryz.underlying9 _ _ _ (by rfl) [3] rfl ?_ ?_; exact new_cells2 _ _ _ _)
  go_region_held3 (fun w' => w'.cell? ⟨w.heap.size, 4, none⟩ = some (.int .i64 c.id) ∧ w'.cell? ⟨w.heap.size, 8, none⟩ = some (.string (str t)))
    (first | (go_keep; done) | (exact ⟨boxN hbX 4, boxN hbX 8⟩))
    (first | (go_at_call 84; refine (rnumber_any _ _ p1 p2).mono ?_; rintro e w' ⟨rfl, hb2⟩; have hbX := box_step hbX hb2))
  clear a1 a2
  go_wp2_with fail
  go_ret
  exact ⟨ret_str E.out, box_old hbX⟩

set_option maxRecDepth 100000 in
set_option maxHeartbeats 4000000 in
theorem written_card (c : Cd) (w : World) (h1 : Num c.id) (h2 : Num c.site) (h3 : Num c.count) (ht : c.text.size ≤ 1000000) :
    Calls Tryz.prog 65 #[.agg (fdCard c).cells.toArray] w fun e w' => e = .returned (.string (str (recCard c))) ∧ Below w.heap.size w w' := by
  obtain ⟨p1, p2⟩ := h1
  obtain ⟨q1, q2⟩ := h2
  obtain ⟨r1, r2⟩ := h3
  obtain ⟨t, htt⟩ : ∃ t, c.text = str t := ⟨c.text.data.toList, (str_data _).symm⟩
  have E : Hid ((byt 2 :: (numB c.id ++ (numB c.site ++ (numB c.count ++ ((if c.gone then 1 else 0) :: t))))) = recCard c) := by show _ = _; unfold recCard; rw [htt]; rfl
  unfold fdCard
  rw [htt] at ht ⊢
  rw [str_size] at ht
  have l1 := numB_length c.id
  have l2 := numB_length c.site
  have l3 := numB_length c.count
  clear htt
  obtain ⟨id, site, count, gone, text⟩ := c
  simp only at *
  have hb0 : BoxF w ⟨0, 2, 0, 0, id, site, count, gone, str t⟩ (w.alloc (.cells (Fd.cells ⟨0, 2, 0, 0, id, site, count, gone, str t⟩).toArray 64)) := Below.refl _ _
  have hbX : BoxF w ⟨0, 2, 0, 0, id, site, count, gone, str t⟩ ((w.alloc (.cells (Fd.cells ⟨0, 2, 0, 0, id, site, count, gone, str t⟩).toArray 64)).alloc (.cells #[.int .u8 2] 5)).drew := (hb0.alloc (by simp) _).drew
  have a1 := fun w' => add_str (P := Tryz.prog) [byt 2] (numB id) (byt 2 :: numB id) rfl (by simp; omega) w'
  have a2 := fun w' => add_str (P := Tryz.prog) (byt 2 :: numB id) (numB site) (byt 2 :: (numB id ++ numB site)) rfl (by simp; omega) w'
  have a3 := fun w' => add_str (P := Tryz.prog) (byt 2 :: (numB id ++ numB site)) (numB count) (byt 2 :: (numB id ++ (numB site ++ numB count))) (by simp) (by simp; omega) w'
  have a4 : ∀ w', (Op.stringOp .add (str (byt 2 :: (numB id ++ (numB site ++ numB count)))) ⟨#[0]⟩).run Tryz.prog w' = .ok (.string (str (byt 2 :: (numB id ++ (numB site ++ (numB count ++ [0])))))) w' := fun w' => add_str (P := Tryz.prog) _ [0] _ (by simp) (by simp; omega) w'
  have a5 : ∀ w', (Op.stringOp .add (str (byt 2 :: (numB id ++ (numB site ++ numB count)))) ⟨#[1]⟩).run Tryz.prog w' = .ok (.string (str (byt 2 :: (numB id ++ (numB site ++ (numB count ++ [1])))))) w' := fun w' => add_str (P := Tryz.prog) _ [1] _ (by simp) (by simp; omega) w'
  have a6 := fun w' => add_str (P := Tryz.prog) (byt 2 :: (numB id ++ (numB site ++ (numB count ++ [0])))) t (byt 2 :: (numB id ++ (numB site ++ (numB count ++ (0 :: t))))) (by simp) (by simp; omega) w'
  have a7 := fun w' => add_str (P := Tryz.prog) (byt 2 :: (numB id ++ (numB site ++ (numB count ++ [1])))) t (byt 2 :: (numB id ++ (numB site ++ (numB count ++ (1 :: t))))) (by simp) (by simp; omega) w'
  cases gone
  all_goals
    go_enter Tryz.func65, Tryz.ntmps65
    go_wp2_with (refine wpList_toString (by rfl) 90 9 5 _ (by rfl) Tryz.underlying90 Tryz.underlying5 Tryz.underlying9 _ _ _ (by rfl) [2] rfl ?_ ?_; exact new_cells2 _ _ _ _)
    go_region_held3 (fun w' => w'.cell? ⟨w.heap.size, 4, none⟩ = some (.int .i64 id) ∧ w'.cell? ⟨w.heap.size, 5, none⟩ = some (.int .i64 site) ∧ w'.cell? ⟨w.heap.size, 6, none⟩ = some (.int .i64 count) ∧ w'.cell? ⟨w.heap.size, 8, none⟩ = some (.string (str t)))
      (first | (go_keep; done) | (exact ⟨boxN hbX 4, boxN hbX 5, boxN hbX 6, boxN hbX 8⟩))
      (first | (go_at_call 84; refine (rnumber_any _ _ (by first | exact p1 | exact q1 | exact r1) (by first | exact p2 | exact q2 | exact r2)).mono ?_; rintro e w' ⟨rfl, hb2⟩; have hbX := box_step hbX hb2))
    clear a1 a2 a3 a4 a5 a6 a7
    go_wp2_with fail
    go_ret
    exact ⟨ret_str E.out, box_old hbX⟩

set_option maxRecDepth 100000 in
set_option maxHeartbeats 4000000 in
theorem written_head (seq base : Int) (w : World) (h1 : Num seq) (h2 : 0 ≤ base) (h3 : base ≤ 4294967295) :
    Calls Tryz.prog 65 #[.agg (fdHead seq base).cells.toArray] w fun e w' => e = .returned (.string (str (recHead seq base))) ∧ Below w.heap.size w w' := by
  obtain ⟨p1, p2⟩ := h1
  have l1 := numB_length seq
  have l2 : (fourI base).length ≤ 4 := Nat.le_refl _
  have hb0 : BoxF w (fdHead seq base) (w.alloc (.cells (fdHead seq base).cells.toArray 64)) := Below.refl _ _
  have hb1 : BoxF w (fdHead seq base) ((w.alloc (.cells (fdHead seq base).cells.toArray 64)).alloc (.cells #[.int .u8 4] 5)) := hb0.alloc (by simp) _
  clear hb0
  unfold fdHead at *
  by_cases hs : seq = 0
  · have hs2 : seq ≤ 0 := by omega
    have E : Hid ((byt 4 :: numB seq) = recHead seq base) := by show _ = _; unfold recHead; rw [if_pos hs]; simp; rfl
    clear hs
    go_enter Tryz.func65, Tryz.ntmps65
    go_wp2_with (refine wpList_toString (by rfl) 90 9 5 _ (by rfl) Tryz.underlying90 Tryz.underlying5 Tryz.underlying9 _ _ _ (by rfl) [4] rfl ?_ ?_; exact new_cells2 _ _ _ _)
    refine (rnumber_any seq _ p1 p2).mono ?_
    rintro e w1 ⟨rfl, hh⟩
    have hb2 := box_step hb1 hh
    clear hh hb1
    have x2 : w1.cell? ⟨w.heap.size, 2, none⟩ = some (.int .i64 seq) := boxN hb2 2
    go_wp2_with fail
    go_ret
    exact ⟨ret_str E.out, box_old hb2⟩
  · have hs2 : 0 < seq := by omega
    have E : Hid ((byt 4 :: (numB seq ++ fourI base)) = recHead seq base) := by show _ = _; unfold recHead; rw [if_neg hs]; rfl
    clear hs
    go_enter Tryz.func65, Tryz.ntmps65
    go_wp2_with (refine wpList_toString (by rfl) 90 9 5 _ (by rfl) Tryz.underlying90 Tryz.underlying5 Tryz.underlying9 _ _ _ (by rfl) [4] rfl ?_ ?_; exact new_cells2 _ _ _ _)
    refine (rnumber_any seq _ p1 p2).mono ?_
    rintro e w1 ⟨rfl, hh⟩
    have hb2 := box_step hb1 hh
    clear hh hb1
    have x2 : w1.cell? ⟨w.heap.size, 2, none⟩ = some (.int .i64 seq) := boxN hb2 2
    have x3 : w1.cell? ⟨w.heap.size, 3, none⟩ = some (.int .i64 base) := boxN hb2 3
    go_wp2_with fail
    refine (rfour_any base _ h2 h3).mono ?_
    rintro e w2 ⟨rfl, hh⟩
    have hb3 := box_step hb2 hh
    clear hh hb2 x2 x3
    go_wp2_with fail
    go_ret
    exact ⟨ret_str (by rw [← E.out]), box_old hb3⟩

/-- A record that may be written. -/
def FdOk (f : Fd) : Prop :=
  (∃ s b, f = fdHead s b ∧ Num s ∧ 0 ≤ b ∧ b ≤ 4294967295) ∨ (∃ c : Ck, f = fdClock c ∧ Num c.site ∧ Num c.count) ∨
  (∃ c : Cd, f = fdCard c ∧ Num c.id ∧ Num c.site ∧ Num c.count ∧ c.text.size ≤ 60) ∨ (∃ c : Ed, f = fdEdit c ∧ Num c.id ∧ c.text.size ≤ 60)

theorem written_any (f : Fd) (w : World) (h : FdOk f) :
    Calls Tryz.prog 65 #[.agg f.cells.toArray] w fun e w' => e = .returned (.string (str (recF f))) ∧ Below w.heap.size w w' := by
  rcases h with ⟨s, b, rfl, h1, h2, h3⟩ | ⟨c, rfl, h1, h2⟩ | ⟨c, rfl, h1, h2, h3, h4⟩ | ⟨c, rfl, h1, h2⟩
  · exact written_head s b w h1 h2 h3
  · exact written_clock c w h1 h2
  · exact written_card c w h1 h2 h3 (by omega)
  · exact written_edit c w h1 (by omega)
end Go.Proofs.YtdjpkgaicmklmaaGreat

/- The program's sums: divideByte, remainder, Sum, Seal, walked. -/
namespace Go.Proofs.YtdjpkgaicmklmaaGreat
open Go.RowKit

theorem div1_i64 (p : Nat) (y : Nat) (hp : p < 4294967296) (hy : y < 4294967296) (h : (4294967295 : Int) < (y : Int) * 2) : bits .xor .i64 ((y : Int) * 2) ((p : Int) + 4294967296) = ((div1 p y : Nat) : Int) := by
  have e : ((y : Int) * 2) = ((2 * y : Nat) : Int) := by omega
  have e2 : ((p : Int) + 4294967296) = ((p + 4294967296 : Nat) : Int) := by omega
  rw [e, e2, bits_xor_i64 _ _ (by omega) (by omega)]
  unfold div1
  rw [if_pos (by omega)]
theorem div1_small (p : Nat) (y : Nat) (h : (y : Int) * 2 ≤ 4294967295) : (y : Int) * 2 = ((div1 p y : Nat) : Int) := by
  unfold div1
  rw [if_neg (by omega)]; omega
theorem div1_lt {p y : Nat} (hp : p < 4294967296) (hy : y < 4294967296) : div1 p y < 4294967296 := by
  have := div1_step p y false [] hp hy (by simp)
  simp [high] at this
  rw [this]
  exact cst_lt hp

set_option maxHeartbeats 1000000 in
theorem divideByte_any (x p : Nat) (w : World) (h1 : x < 4294967296) (h3 : p < 4294967296) (P' : Int) (hP : P' = (p : Int) + 4294967296) :
    Calls Tryz.prog 94 #[.int .i64 x, .int .i64 P'] w fun e w' => e = .returned (.int .i64 ((divN p 8 x : Nat) : Int)) ∧ w' = w := by
  subst hP
  go_enter Tryz.func94, Tryz.ntmps94
  go_wp2
  go_loop [0, 5] (fun v i => ∃ (k : Nat) (y : Nat), k ≤ 8 ∧ i = .int .i64 k ∧ v = .int .i64 (y : Int) ∧ y < 4294967296 ∧ divN p (8 - k) y = divN p 8 x) (fun _ i => 8 - (intOf i).toNat)
  case atStart => exact ⟨0, x, Nat.zero_le _, rfl, rfl, h1, rfl⟩
  case round =>
    obtain ⟨k, y, hk, rfl, rfl, hy1, hd⟩ := hrel
    have HD : Hid (divN p (8 - k) y = divN p 8 x) := hd
    clear hd
    by_cases hlt : k < 8
    · have e0 : divN p (8 - (k + 1)) (div1 p y) = divN p 8 x := by
        rw [← HD.out, show 8 - k = (8 - (k + 1)) + 1 by omega, divN]
      have E0 : Hid (divN p (8 - (k + 1)) (div1 p y) = divN p 8 x) := e0
      clear e0 HD
      go_wp2
      · have e1 := div1_i64 p y h3 hy1 (by assumption)
        go_round
        case rel => exact ⟨k + 1, div1 p y, by omega, by go_num, by rw [e1], div1_lt h3 hy1, E0.out⟩
        case measure => simp [intOf]; omega
      · have e1 := div1_small p y (by assumption)
        go_round
        case rel => exact ⟨k + 1, div1 p y, by omega, by go_num, by rw [e1], div1_lt h3 hy1, E0.out⟩
        case measure => simp [intOf]; omega
    · have e1 : k = 8 := by omega
      subst e1
      go_wp2
      go_ret
      exact ⟨ret_int (by rw [← HD.out]; rfl), rfl⟩

theorem take_bytes (s : List UInt8) (k : Nat) (h : k < s.length) : s.take (k + 1) = s.take k ++ [s[k]] := List.take_succ_eq_append_getElem h

set_option maxHeartbeats 2000000 in
theorem remainder_any (s : List UInt8) (p : Nat) (w : World) (hs : s.length ≤ 9223372036854775807) (h3 : p < 4294967296) (P' : Int) (hP : P' = (p : Int) + 4294967296) :
    Calls Tryz.prog 81 #[.string (str s), .int .i64 P'] w fun e w' => e = .returned (.int .i64 ((crc p s : Nat) : Int)) ∧ w' = w := by
  subst hP
  have hz := str_size s
  have HZ : Hid ((str s).size = s.length) := hz
  clear hz
  have hs2 : (str s).size ≤ 9223372036854775807 := by rw [HZ.out]; exact hs
  go_enter Tryz.func81, Tryz.ntmps81
  go_wp2
  go_loop [5, 6] (fun v i => ∃ (k : Nat) (r : Nat), k ≤ (str s).size ∧ i = .int .i64 k ∧ v = .int .i64 (r : Int) ∧ r < 4294967296 ∧ r = crcB p 4294967295 (allBits (s.take k))) (fun _ i => (str s).size - (intOf i).toNat)
  case atStart => exact ⟨0, 4294967295, Nat.zero_le _, rfl, rfl, by omega, rfl⟩
  case round =>
    obtain ⟨k, r, hk, rfl, rfl, hr1, hr⟩ := hrel
    have HR : Hid (r = crcB p 4294967295 (allBits (s.take k))) := hr
    clear hr
    by_cases hlt : k < (str s).size
    · have hlt2 : k < s.length := by rw [← HZ.out]; exact hlt
      go_wp2_with fail
      have eb : wrap64 (wrap64 (((str s)[k]'hlt).toNat : Int) * 16777216) = ((s[k].toNat * 16777216 : Nat) : Int) := by
        have hb := (s[k]).toNat_lt
        have e0 : ((str s)[k]'hlt).toNat = s[k].toNat := rfl
        rw [e0]
        unfold wrap64
        omega
      have hb := (s[k]).toNat_lt
      have ex : bits BinOp.xor IntKind.i64 (r : Int) (wrap64 (wrap64 (((str s)[k]'hlt).toNat : Int) * 16777216)) = ((r ^^^ (s[k].toNat * 16777216) : Nat) : Int) := by
        rw [eb, bits_xor_i64 _ _ (by omega) (by omega)]
      rw [ex]
      have hx : r ^^^ (s[k].toNat * 16777216) < 4294967296 := Nat.xor_lt_two_pow (n := 32) hr1 (by omega)
      have hd := divN_byte p h3 s[k] r hr1
      have HD : Hid (divN p 8 (r ^^^ (s[k].toNat * 16777216)) = crcB p r (bitsOf s[k])) := hd
      clear hd ex eb
      generalize hX : r ^^^ (s[k].toNat * 16777216) = X at *
      clear hX
      refine (divideByte_any X p _ hx h3 _ rfl).mono ?_
      rintro e w' ⟨rfl, rfl⟩
      have hlt3 : divN p 8 X < 4294967296 := by rw [HD.out]; exact crcB_lt h3 _ hr1
      have hfin : divN p 8 X = crcB p 4294967295 (allBits (s.take (k + 1))) := by
        rw [HD.out, HR.out, take_bytes s k hlt2]
        rw [allBits_append, allBits_one, crcB_append]
      have HF : Hid (divN p 8 X = crcB p 4294967295 (allBits (s.take (k + 1)))) := hfin
      clear hfin HD HR
      generalize divN p 8 X = Y at *
      go_wp2_with fail
      go_round
      case rel => exact ⟨k + 1, Y, by omega, by go_num, rfl, hlt3, HF.out⟩
      case measure => simp [intOf]; omega
    · have e1 : k = s.length := by rw [← HZ.out]; omega
      have e2 : crc p s = r ^^^ 4294967295 := by
        unfold crc; rw [HR.out, e1, List.take_of_length_le (Nat.le_refl _)]
      have e3 : bits .xor .i64 (r : Int) 4294967295 = ((crc p s : Nat) : Int) := by
        rw [e2, ← bits_xor_i64 r 4294967295 (by omega) (by omega)]; rfl
      have E3 : Hid (bits .xor .i64 (r : Int) 4294967295 = ((crc p s : Nat) : Int)) := e3
      clear e1 e2 e3 HR
      go_wp2_with fail
      go_ret
      exact ⟨ret_int E3.out, rfl⟩

set_option maxHeartbeats 1000000 in
theorem sum_any (s : List UInt8) (w : World) (hs : s.length ≤ 9223372036854775807) :
    Calls Tryz.prog 80 #[.string (str s)] w fun e w' => e = .returned (.int .i64 ((crc pSum s : Nat) : Int)) ∧ w' = w := by
  go_enter Tryz.func80, Tryz.ntmps80
  go_wp2_with fail
  refine (remainder_any s pSum _ hs (by decide) _ (by decide)).mono ?_
  rintro e w' ⟨rfl, rfl⟩
  go_wp2_with fail
  go_ret
  exact ⟨rfl, rfl⟩
set_option maxHeartbeats 1000000 in
theorem seal_any (s : List UInt8) (w : World) (hs : s.length ≤ 9223372036854775807) :
    Calls Tryz.prog 57 #[.string (str s)] w fun e w' => e = .returned (.int .i64 ((crc pSeal s : Nat) : Int)) ∧ w' = w := by
  go_enter Tryz.func57, Tryz.ntmps57
  go_wp2_with fail
  refine (remainder_any s pSeal _ hs (by decide) _ (by decide)).mono ?_
  rintro e w' ⟨rfl, rfl⟩
  go_wp2_with fail
  go_ret
  exact ⟨rfl, rfl⟩
end Go.Proofs.YtdjpkgaicmklmaaGreat

/- Frames and bundles of both, walked. -/
namespace Go.Proofs.YtdjpkgaicmklmaaGreat
open Go.RowKit
attribute [local go_sem] str_size str_append mk_append_str str_append_mk

/-- A frame. -/
def frameB (r : List UInt8) : List UInt8 := 245 :: 95 :: (byt r.length :: (r ++ fourI (crc pSum (byt r.length :: r))))
/-- A bundle of records. -/
def bodyB (l : List Fd) : List UInt8 := 80 :: 82 :: 67 :: 49 :: l.flatMap (fun f => frameB (recF f))
def bundleB (l : List Fd) : List UInt8 := bodyB l ++ fourI (crc pSeal (bodyB l))

theorem frameB_length (r : List UInt8) : (frameB r).length = r.length + 7 := by simp [frameB, fourI]
theorem bodyB_succ (l : List Fd) (f : Fd) : bodyB (l ++ [f]) = bodyB l ++ frameB (recF f) := by simp [bodyB]

theorem recF_length {f : Fd} (h : FdOk f) : (recF f).length ≤ 100 := by
  rcases h with ⟨s, b, rfl, h1, h2, h3⟩ | ⟨c, rfl, h1, h2⟩ | ⟨c, rfl, h1, h2, h3, h4⟩ | ⟨c, rfl, h1, h2⟩
  · have := numB_length s
    rw [recF_head]; unfold recHead; split <;> simp [fourI] <;> omega
  · have := numB_length c.site; have := numB_length c.count
    rw [recF_clock]; unfold recClock; simp; omega
  · have := numB_length c.id; have := numB_length c.site; have := numB_length c.count
    rw [recF_card]; unfold recCard; simp
    have e : c.text.data.size = c.text.size := rfl
    omega
  · have := numB_length c.id
    rw [recF_edit]; unfold recEdit; simp
    have e : c.text.data.size = c.text.size := rfl
    omega

theorem bodyB_length (l : List Fd) (h : ∀ f, f ∈ l → FdOk f) : (bodyB l).length ≤ 4 + 107 * l.length := by
  have : ∀ l : List Fd, (∀ f, f ∈ l → FdOk f) → (l.flatMap (fun f => frameB (recF f))).length ≤ 107 * l.length := by
    intro l
    induction l with
    | nil => intro _; simp
    | cons f l ih =>
      intro h
      have h1 := recF_length (h f (by simp))
      have h2 := ih (fun x hx => h x (by simp [hx]))
      simp only [List.flatMap_cons, List.length_append, frameB_length, List.length_cons]
      omega
  have := this l h
  simp only [bodyB, List.length_cons]
  omega

theorem crc_le (p : Nat) (hp : p < 4294967296) (l : List UInt8) : 0 ≤ ((crc p l : Nat) : Int) ∧ ((crc p l : Nat) : Int) ≤ 4294967295 := by
  have := crc_lt hp l; omega

set_option maxRecDepth 100000 in
set_option maxHeartbeats 1000000 in
theorem frame_any (r : List UInt8) (w : World) (hr : r.length ≤ 255) :
    Calls Tryz.prog 56 #[.string (str r)] w fun e w' => e = .returned (.string (str (frameB r))) ∧ Below w.heap.size w w' := by
  have E : Hid (245 :: 95 :: (byt r.length :: (r ++ fourI (crc pSum (byt r.length :: r)))) = frameB r) := rfl
  have l4 : ∀ n, (fourI n).length ≤ 4 := fun _ => Nat.le_refl _
  go_enter Tryz.func56, Tryz.ntmps56
  go_wp2_with fail
  refine (oneByte_any _ _ (by omega) (by omega)).mono ?_
  rintro e w1 ⟨rfl, hb1⟩
  go_wp2_with fail
  refine (sum_any (byt r.length :: r) _ (by simp; omega)).mono ?_
  rintro e w2 ⟨rfl, rfl⟩
  obtain ⟨c1, c2⟩ := crc_le pSum (by decide) (byt r.length :: r)
  generalize crc pSum (byt r.length :: r) = C at *
  go_wp2_with fail
  refine (fourBytes_any _ _ c1 c2).mono ?_
  rintro e w3 ⟨rfl, hb3⟩
  have l5 := l4 (C : Int)
  generalize fourI (C : Int) = t at *
  clear l4
  go_wp2_with fail
  go_ret
  exact ⟨ret_str E.out, hb1.trans (hb3.mono hb1.size)⟩

set_option maxRecDepth 100000 in
set_option maxHeartbeats 1000000 in
theorem rframe_any (f : Fd) (w : World) (h : FdOk f) :
    Calls Tryz.prog 38 #[.agg f.cells.toArray] w fun e w' => e = .returned (.string (str (frameB (recF f)))) ∧ Below w.heap.size w w' := by
  have hr := recF_length h
  have hb0 : BoxF w f (w.alloc (.cells f.cells.toArray 64)) := Below.refl _ _
  have hw := written_any f (w.alloc (.cells f.cells.toArray 64)) h
  go_enter Tryz.func38, Tryz.ntmps38
  go_wp2_with fail
  refine hw.mono ?_
  rintro e w1 ⟨rfl, hh⟩
  have hb1 := box_step hb0 hh
  clear hh hb0
  generalize hrr : recF f = r at *
  have HR : Hid (recF f = r) := hrr
  clear hrr
  have E : Hid (245 :: 95 :: (byt r.length :: (r ++ fourI (crc pSum (byt r.length :: r)))) = frameB r) := rfl
  have l4 : ∀ n, (fourI n).length ≤ 4 := fun _ => Nat.le_refl _
  go_wp2_with (refine wpList_toString (by rfl) 90 9 5 _ (by rfl) Tryz.underlying90 Tryz.underlying5 Tryz.underlying9 _ _ _ (by rfl) [(r.length : Int)] rfl ?_ ?_; exact new_cells _ _ _)
  have hb2 := hb1.alloc (by have := hb1.size; simpa using this) (.cells #[.int .u8 (r.length : Int)] 5)
  refine (rsum_any (byt r.length :: r) _ (by simp; omega)).mono ?_
  rintro e w2 ⟨rfl, hh⟩
  have hb3 := box_step hb2 hh
  clear hh hb2 hb1
  obtain ⟨c1, c2⟩ := crc_le pSum (by decide) (byt r.length :: r)
  generalize crc pSum (byt r.length :: r) = C at *
  go_wp2_with fail
  refine (rfour_any _ _ c1 c2).mono ?_
  rintro e w3 ⟨rfl, hh⟩
  have hb4 := box_step hb3 hh
  clear hh hb3
  have l5 := l4 (C : Int)
  generalize fourI (C : Int) = t at *
  clear l4
  go_wp2_with fail
  go_ret
  exact ⟨ret_str (by rw [HR.out]; exact E.out), box_old hb4⟩

theorem Fit.ok {R : Rep} (hF : Fit R) {s b : Int} (hs : Num s) (hb1 : 0 ≤ b) (hb2 : b ≤ 4294967295) : ∀ f, f ∈ recsOf s b R → FdOk f := by
  intro f h
  simp only [recsOf, recs3, recs2, recs1, List.mem_append, List.mem_cons, List.mem_map, List.mem_range] at h
  rcases h with ((rfl | ⟨i, hi, rfl⟩) | ⟨i, hi, rfl⟩) | ⟨i, hi, rfl⟩
  · exact Or.inl ⟨s, b, rfl, hs, hb1, hb2⟩
  · obtain ⟨g1, g2⟩ := hF.c1 i hi
    exact Or.inr (Or.inl ⟨_, rfl, g1, g2⟩)
  · obtain ⟨g1, g2, g3, g4⟩ := hF.d1 i hi
    exact Or.inr (Or.inr (Or.inl ⟨_, rfl, g1, g2, g3, g4⟩))
  · obtain ⟨g1, g2⟩ := hF.e1 i hi
    exact Or.inr (Or.inr (Or.inr ⟨_, rfl, g1, g2⟩))

set_option maxRecDepth 100000 in
set_option maxHeartbeats 4000000 in
theorem bundle_any (s b : Int) (R : Rep) (a1 a2 a3 : Option Addr) (k1 k2 k3 : Nat) (w : World) (hR : Has w R a1 a2 a3) (hF : Fit R) (hs : Num s) (hb1 : 0 ≤ b) (hb2 : b ≤ 4294967295) :
    Calls Tryz.prog 25 #[.agg (lnkA s b R a1 a2 a3 k1 k2 k3)] w fun e w' => e = .returned (.string (str (bundleB (recsOf s b R)))) ∧ Below w.heap.size w w' := by
  have m1 := hF.n1; have m2 := hF.n2; have m3 := hF.n3
  have h0 : BoxL w s b R a1 a2 a3 k1 k2 k3 (w.alloc (.cells (lnkA s b R a1 a2 a3 k1 k2 k3) 46)) := Below.refl _ _
  have hrec := recordsOf_any s b R a1 a2 a3 k1 k2 k3 (w.alloc (.cells (lnkA s b R a1 a2 a3 k1 k2 k3) 46)) (hR.below (box_old h0)) hF hs hb1 hb2
  go_enter Tryz.func25, Tryz.ntmps25
  go_wp2_with fail
  refine hrec.mono ?_
  rintro e w1 ⟨ad, cap, N, rfl, hN, hv, hh⟩
  have h1 := box_old (box_step h0 hh)
  clear hh h0 hrec
  have hok := hF.ok hs hb1 hb2
  have hNb : N ≤ 3000001 := by rw [hN, recsOf_length]; omega
  generalize hll : recsOf s b R = l at *
  have HLL : Hid (recsOf s b R = l) := hll
  clear hll
  have HN : Hid (N = l.length) := hN
  have HO : Hid (∀ f, f ∈ l → FdOk f) := hok
  clear hN hok
  go_wp2_with fail
  go_loopw [4, 5, 6] (fun v u _ wr => ∃ (k : Nat) (B : List UInt8), k ≤ N ∧ u = .int .i64 k ∧ v = .string (str B) ∧ B = bodyB (l.take k) ∧ B.length ≤ 400000000 ∧ Below w1.heap.size w1 wr) (fun _ u _ _ => N - (intOf u).toNat)
  case atStart => exact ⟨0, [80, 82, 67, 49], Nat.zero_le _, rfl, rfl, rfl, by simp, Below.refl _ _⟩
  case round =>
    obtain ⟨k, B, hk, rfl, rfl, hB, hBl, hb⟩ := hrel
    have HB : Hid (B = bodyB (l.take k)) := hB
    clear hB
    by_cases hlt : k < N
    · have hl : k < l.length := by rw [← HN.out]; exact hlt
      have hvr := hv.keep hb
      obtain ⟨bb, o, _, hbl, hix, hc, _, _⟩ := hvr.at (P := Tryz.prog) (t := 22) (by kernel_rfl) (by kernel_rfl) hlt (k : Int) rfl
      have hcell : wr.cell? ⟨bb, o, none⟩ = some (.string (str (recF l[k]))) := by
        have := hc 0 (by omega)
        rw [Nat.add_zero, Nat.mul_one, Nat.add_zero, List.getElem?_map, List.getElem?_eq_getElem hl] at this
        exact this
      have hfk := HO.out l[k] (List.getElem_mem hl)
      have hfl := recF_length hfk
      have hbod : bodyB (l.take (k + 1)) = B ++ frameB (recF l[k]) := by
        rw [List.take_succ_eq_append_getElem hl, bodyB_succ, HB.out]
      have hbl2 := bodyB_length (l.take (k + 1)) (fun f hf => HO.out f (List.mem_of_mem_take hf))
      rw [hbod] at hbl2
      have hfr := frameB_length (recF l[k])
      have hk3 : (l.take (k + 1)).length ≤ 3000001 := by rw [List.length_take]; have := HN.out; omega
      have hbl3 : (B ++ frameB (recF l[k])).length ≤ 400000000 := by omega
      have HD : Hid (bodyB (l.take (k + 1)) = B ++ frameB (recF l[k])) := hbod
      clear hc hbod hbl2 hk3 hvr HB hfk
      generalize recF l[k] = r at *
      have hfr2 : (frameB r).length ≤ 200 := by omega
      clear hfr
      go_wp2_with fail
      refine (frame_any r _ (by omega)).mono ?_
      rintro e w2 ⟨rfl, hh⟩
      have hb3 : Below w1.heap.size w1 w2 := hb.trans (hh.mono hb.size)
      clear hh
      generalize frameB r = fr at *
      rw [List.length_append] at hbl3
      go_wp2_with fail
      go_roundw
      case rel => exact ⟨k + 1, B ++ fr, by omega, by go_num, rfl, HD.out.symm, by simp; omega, hb3⟩
      case measure => simp [intOf]; omega
    · have e1 : k = N := by omega
      have E : Hid (B = bodyB l) := by
        have h := HB.out
        rw [e1, HN.out, List.take_of_length_le (Nat.le_refl _)] at h; exact h
      clear e1 HB
      go_wp2_with fail
      refine (seal_any B _ (by omega)).mono ?_
      rintro e w2 ⟨rfl, rfl⟩
      obtain ⟨c1, c2⟩ := crc_le pSeal (by decide) B
      have F : Hid (B ++ fourI (crc pSeal B) = bundleB l) := by show _ = _; rw [E.out]; rfl
      generalize crc pSeal B = C at *
      go_wp2_with fail
      refine (fourBytes_any _ _ c1 c2).mono ?_
      rintro e w3 ⟨rfl, hh⟩
      have l5 : (fourI (C : Int)).length ≤ 4 := Nat.le_refl _
      generalize fourI (C : Int) = t at *
      go_wp2_with fail
      go_ret
      exact ⟨ret_str (by rw [HLL.out]; exact F.out), h1.trans ((hb.trans (hh.mono hb.size)).mono h1.size)⟩
end Go.Proofs.YtdjpkgaicmklmaaGreat

/- A bundle is of one list of records: numbers end themselves, frames tell their length. -/
namespace Go.Proofs.YtdjpkgaicmklmaaGreat
open Go.RowKit

theorem byt_inj {a b : Int} (ha : 0 ≤ a) (ha2 : a < 256) (hb : 0 ≤ b) (hb2 : b < 256) (h : byt a = byt b) : a = b := by
  unfold byt at h
  have := congrArg UInt8.toNat h
  simp only [UInt8.toNat_ofNat'] at this
  omega

/-- Numbers end themselves. -/
theorem numI_free : ∀ (k : Nat) (a b : Int), 0 ≤ a → 0 ≤ b → a < 128 ^ (k + 1) → b < 128 ^ (k + 1) → ∀ x y : List UInt8, (numI k a).map byt ++ x = (numI k b).map byt ++ y → a = b ∧ x = y
  | 0, a, b, ha, hb, la, lb, x, y, h => by
    simp [numI] at h la lb
    exact ⟨byt_inj ha (by omega) hb (by omega) h.1, h.2⟩
  | k + 1, a, b, ha, hb, la, lb, x, y, h => by
    have e : (128 : Int) ^ (k + 1 + 1) = 128 ^ (k + 1) * 128 := Int.pow_succ ..
    simp only [numI] at h
    split at h <;> split at h
    · simp at h; exact ⟨byt_inj ha (by omega) hb (by omega) h.1, h.2⟩
    · simp at h
      have := byt_inj ha (by omega) (by omega) (by omega) h.1
      omega
    · simp at h
      have := byt_inj (by omega) (by omega) hb (by omega) h.1
      omega
    · simp only [List.map_cons, List.cons_append, List.cons.injEq] at h
      have h1 := byt_inj (by omega) (by omega) (by omega) (by omega) h.1
      have h2 := numI_free k (a / 128) (b / 128) (by omega) (by omega) (Int.ediv_lt_of_lt_mul (by omega) (by rw [← e]; exact la)) (Int.ediv_lt_of_lt_mul (by omega) (by rw [← e]; exact lb)) x y h.2
      exact ⟨by omega, h2.2⟩
theorem numB_free {a b : Int} (ha : Num a) (hb : Num b) {x y : List UInt8} (h : numB a ++ x = numB b ++ y) : a = b ∧ x = y :=
  numI_free 9 a b ha.1 hb.1 (Int.lt_of_le_of_lt ha.2 (by decide)) (Int.lt_of_le_of_lt hb.2 (by decide)) x y h

theorem ba_ext {a b : ByteArray} (h : a.data.toList = b.data.toList) : a = b := by
  cases a; cases b; simp at h; simp [h]

/-- A record's bytes are of one record. -/
theorem recF_inj {f g : Fd} (hf : FdOk f) (hg : FdOk g) (h : recF f = recF g) (hs : f.seq = 0) (hs2 : g.seq = 0) (hb : f.base = 0) (hb2 : g.base = 0) : f = g := by
  rcases hf with ⟨s, b, rfl, hns, -, -⟩ | ⟨c, rfl, n1, n2⟩ | ⟨c, rfl, n1, n2, n3, -⟩ | ⟨c, rfl, n1, -⟩ <;>
  rcases hg with ⟨s', b', rfl, hns', -, -⟩ | ⟨c', rfl, m1, m2⟩ | ⟨c', rfl, m1, m2, m3, -⟩ | ⟨c', rfl, m1, -⟩ <;>
  simp only [recF_head, recF_clock, recF_card, recF_edit, recHead, recClock, recCard, recEdit, List.cons.injEq] at h
  all_goals first
    | (exact absurd h.1 (by decide))
    | skip
  · have e1 : s = 0 := hs
    have e2 : s' = 0 := hs2
    have e3 : b = 0 := hb
    have e4 : b' = 0 := hb2
    subst e1 e2 e3 e4; rfl
  · obtain ⟨e1, h2⟩ := numB_free n1 m1 h.2
    obtain ⟨e2, -⟩ := numB_free n2 m2 (x := []) (y := []) (by simpa using h2)
    cases c; cases c'; simp at e1 e2; subst e1 e2; rfl
  · obtain ⟨e1, h2⟩ := numB_free n1 m1 h.2
    obtain ⟨e2, h3⟩ := numB_free n2 m2 h2
    obtain ⟨e3, h4⟩ := numB_free n3 m3 h3
    simp only [List.cons.injEq] at h4
    have e4 : c.gone = c'.gone := by
      have := h4.1
      cases hg1 : c.gone <;> cases hg2 : c'.gone <;> simp [hg1, hg2] at this ⊢
    have e5 := ba_ext h4.2
    cases c; cases c'; simp at e1 e2 e3 e4 e5; subst e1 e2 e3 e4 e5; rfl
  · obtain ⟨e1, h2⟩ := numB_free n1 m1 h.2
    have e5 := ba_ext h2
    cases c; cases c'; simp at e1 e5; subst e1 e5; rfl

/-- Frames tell their length. -/
theorem frameB_free {r s : List UInt8} (hr : r.length ≤ 255) (hs : s.length ≤ 255) {x y : List UInt8} (h : frameB r ++ x = frameB s ++ y) : r = s ∧ x = y := by
  simp only [frameB, List.cons_append, List.cons.injEq, List.append_assoc] at h
  obtain ⟨-, -, h1, h2⟩ := h
  have hl : r.length = s.length := by
    have := byt_inj (a := (r.length : Int)) (b := (s.length : Int)) (by omega) (by omega) (by omega) (by omega) h1; omega
  obtain ⟨e1, e2⟩ := List.append_inj h2 hl
  subst e1
  exact ⟨rfl, List.append_cancel_left e2⟩

theorem frames_inj : ∀ (l m : List Fd), (∀ f, f ∈ l → FdOk f ∧ f.seq = 0 ∧ f.base = 0) → (∀ f, f ∈ m → FdOk f ∧ f.seq = 0 ∧ f.base = 0) → l.flatMap (fun f => frameB (recF f)) = m.flatMap (fun f => frameB (recF f)) → l = m
  | [], [], _, _, _ => rfl
  | [], g :: m, _, _, h => by simp [frameB] at h
  | f :: l, [], _, _, h => by simp [frameB] at h
  | f :: l, g :: m, hl, hm, h => by
    simp only [List.flatMap_cons] at h
    have a := hl f (List.mem_cons_self ..)
    have b := hm g (List.mem_cons_self ..)
    obtain ⟨e1, e2⟩ := frameB_free (by have := recF_length a.1; omega) (by have := recF_length b.1; omega) h
    have := recF_inj a.1 b.1 e1 a.2.1 b.2.1 a.2.2 b.2.2
    subst this
    rw [frames_inj l m (fun x hx => hl x (List.mem_cons_of_mem _ hx)) (fun x hx => hm x (List.mem_cons_of_mem _ hx)) e2]

theorem bundleB_inj {l m : List Fd} (hl : ∀ f, f ∈ l → FdOk f ∧ f.seq = 0 ∧ f.base = 0) (hm : ∀ f, f ∈ m → FdOk f ∧ f.seq = 0 ∧ f.base = 0) (h : bundleB l = bundleB m) : l = m := by
  unfold bundleB at h
  have e : (bodyB l).length = (bodyB m).length := by
    have := congrArg List.length h
    simp [fourI] at this; exact this
  obtain ⟨h, -⟩ := List.append_inj h e
  simp only [bodyB, List.cons.injEq, true_and] at h
  exact frames_inj l m hl hm h

/-- All records have no sequence and no base. -/
theorem recsOf_zero (R : Rep) : ∀ f, f ∈ recsOf 0 0 R → f.seq = 0 ∧ f.base = 0 := by
  intro f hf
  simp only [recsOf, recs3, recs2, recs1, List.mem_append, List.mem_cons, List.mem_map] at hf
  rcases hf with ((rfl | ⟨i, _, rfl⟩) | ⟨i, _, rfl⟩) | ⟨i, _, rfl⟩ <;> exact ⟨rfl, rfl⟩

/-- Two replicas are the same. -/
structure Same (R T : Rep) : Prop where
  n1 : R.n1 = T.n1
  n2 : R.n2 = T.n2
  n3 : R.n3 = T.n3
  c : ∀ i, i < R.n1 → R.c i = T.c i
  d : ∀ i, i < R.n2 → R.d i = T.d i
  e : ∀ i, i < R.n3 → R.e i = T.e i

theorem filter_kind (R : Rep) (k : Int) : (recsOf 0 0 R).filter (fun f => f.kind == k) =
    (if k = 4 then [fdHead 0 0] else []) ++ (if k = 1 then (List.range R.n1).map (fun i => fdClock (R.c i)) else []) ++ (if k = 2 then (List.range R.n2).map (fun i => fdCard (R.d i)) else []) ++ (if k = 3 then (List.range R.n3).map (fun i => fdEdit (R.e i)) else []) := by
  have h : ∀ (n : Nat) (f : Nat → Fd) (q : Int), (∀ i, (f i).kind = q) → ((List.range n).map f).filter (fun f => f.kind == k) = if k = q then (List.range n).map f else [] := by
    intro n f q hq
    split
    · rename_i e; subst e
      rw [List.filter_eq_self]; intro x hx; obtain ⟨i, _, rfl⟩ := List.mem_map.1 hx; simp [hq]
    · rename_i e
      rw [List.filter_eq_nil_iff]; intro x hx; obtain ⟨i, _, rfl⟩ := List.mem_map.1 hx; simp [hq]; omega
  unfold recsOf recs3 recs2 recs1
  rw [List.filter_append, List.filter_append, h R.n3 _ 3 (fun _ => rfl), h R.n2 _ 2 (fun _ => rfl), List.filter_cons, h R.n1 _ 1 (fun _ => rfl)]
  congr 2
  by_cases e : k = 4
  · subst e; simp [fdHead]
  · rw [if_neg (by show ¬ ((4 : Int) == k) = true; simp; omega), if_neg e]; simp

theorem map_range_inj {α : Type} {n m : Nat} {f g : Nat → α} (h : (List.range n).map f = (List.range m).map g) : n = m ∧ ∀ i, i < n → f i = g i := by
  have e : n = m := by simpa using congrArg List.length h
  subst e
  refine ⟨rfl, fun i hi => ?_⟩
  have := congrArg (fun l => l[i]?) h
  simpa [hi] using this

theorem recsOf_inj {R T : Rep} (h : recsOf 0 0 R = recsOf 0 0 T) : Same R T := by
  have k1 := congrArg (List.filter (fun f => f.kind == 1)) h
  have k2 := congrArg (List.filter (fun f => f.kind == 2)) h
  have k3 := congrArg (List.filter (fun f => f.kind == 3)) h
  rw [filter_kind, filter_kind] at k1 k2 k3
  simp at k1 k2 k3
  obtain ⟨a1, b1⟩ := map_range_inj k1
  obtain ⟨a2, b2⟩ := map_range_inj k2
  obtain ⟨a3, b3⟩ := map_range_inj k3
  refine ⟨a1, a2, a3, fun i hi => ?_, fun i hi => ?_, fun i hi => ?_⟩
  · have := b1 i hi
    simp [fdClock] at this
    cases hr : R.c i; cases ht : T.c i; simp [hr, ht] at this; simp [this]
  · have := b2 i hi
    simp [fdCard] at this
    cases hr : R.d i; cases ht : T.d i; simp [hr, ht] at this; simp [this]
  · have := b3 i hi
    simp [fdEdit] at this
    cases hr : R.e i; cases ht : T.e i; simp [hr, ht] at this; simp [this]

theorem Same.recs {R T : Rep} (h : Same R T) : recsOf 0 0 R = recsOf 0 0 T := by
  have e1 : (List.range R.n1).map (fun i => fdClock (R.c i)) = (List.range R.n1).map (fun i => fdClock (T.c i)) := List.map_congr_left fun i hi => by rw [h.c i (List.mem_range.1 hi)]
  have e2 : (List.range R.n2).map (fun i => fdCard (R.d i)) = (List.range R.n2).map (fun i => fdCard (T.d i)) := List.map_congr_left fun i hi => by rw [h.d i (List.mem_range.1 hi)]
  have e3 : (List.range R.n3).map (fun i => fdEdit (R.e i)) = (List.range R.n3).map (fun i => fdEdit (T.e i)) := List.map_congr_left fun i hi => by rw [h.e i (List.mem_range.1 hi)]
  unfold recsOf recs3 recs2 recs1
  rw [e1, e2, e3, ← h.n1, ← h.n2, ← h.n3]

/-- A bundle is of one sound replica. -/
theorem bundle_same {R T : Rep} (hR : Fit R) (hT : Fit T) : bundleB (recsOf 0 0 R) = bundleB (recsOf 0 0 T) ↔ Same R T := by
  constructor
  · intro h
    refine recsOf_inj (bundleB_inj (fun f hf => ⟨hR.ok ⟨by omega, by omega⟩ (by omega) (by omega) f hf, recsOf_zero R f hf⟩) (fun f hf => ⟨hT.ok ⟨by omega, by omega⟩ (by omega) (by omega) f hf, recsOf_zero T f hf⟩) h)
  · intro h; rw [h.recs]

/-- How many bytes a number has. -/
def bytesI : Nat → Int → Nat
  | 0, _ => 1
  | k + 1, n => if n < 128 then 1 else bytesI k (n / 128) + 1
theorem numI_bytes : ∀ (k : Nat) (n : Int), (numI k n).length = bytesI k n
  | 0, n => rfl
  | k + 1, n => by
    simp only [numI, bytesI]; split
    · rfl
    · simp [numI_bytes k (n / 128)]
theorem numB_bytes (n : Int) : (numB n).length = bytesI 9 n := by simp [numB, numI_bytes]

/-- How long the frames of records are. -/
def lenF (f : Fd) : Nat := (recF f).length + 7
def lenL (l : List Fd) : Nat := (l.map lenF).sum
theorem bundleB_length (l : List Fd) : (bundleB l).length = 8 + lenL l := by
  have : ∀ l : List Fd, (l.flatMap (fun f => frameB (recF f))).length = lenL l := by
    intro l; induction l with
    | nil => rfl
    | cons f l ih => simp only [List.flatMap_cons, List.length_append, ih, frameB_length, lenL, List.map_cons, List.sum_cons, lenF]
  unfold bundleB bodyB
  simp [fourI, this]; omega
theorem lenL_snoc (l : List Fd) (f : Fd) : lenL (l ++ [f]) = lenL l + lenF f := by simp [lenL]
theorem lenF_clock (c : Ck) : lenF (fdClock c) = 8 + bytesI 9 c.site + bytesI 9 c.count := by
  unfold lenF; rw [recF_clock, recClock, List.length_cons, List.length_append, numB_bytes, numB_bytes]; omega
theorem lenF_card (c : Cd) : lenF (fdCard c) = 9 + bytesI 9 c.id + bytesI 9 c.site + bytesI 9 c.count + c.text.size := by
  have : c.text.data.toList.length = c.text.size := Array.length_toList
  unfold lenF; rw [recF_card, recCard, List.length_cons, List.length_append, List.length_append, List.length_append, List.length_cons, numB_bytes, numB_bytes, numB_bytes]; omega
theorem lenF_edit (c : Ed) : lenF (fdEdit c) = 8 + bytesI 9 c.id + c.text.size := by
  have : c.text.data.toList.length = c.text.size := Array.length_toList
  unfold lenF; rw [recF_edit, recEdit, List.length_cons, List.length_append, numB_bytes]; omega
theorem lenF_head : lenF (fdHead 0 0) = 9 := by
  unfold lenF; rw [recF_head]; rfl
end Go.Proofs.YtdjpkgaicmklmaaGreat

/- Numbers read back: plain functions, and the reference's number, numbers, four, walked. -/
namespace Go.Proofs.YtdjpkgaicmklmaaGreat
open Go.RowKit

/-- Bytes are added up till the first below 128. -/
def rdAcc : Nat → Nat → Int → List UInt8 → Option (Int × Nat)
  | 0, _, _, _ => none
  | _ + 1, _, _, [] => none
  | k + 1, i, v, c :: s => if c.toNat < 128 then some (v + ((c.toNat % 128 : Nat) : Int) * 128 ^ i, i + 1) else rdAcc k (i + 1) (v + ((c.toNat % 128 : Nat) : Int) * 128 ^ i) s
/-- The number with which bytes begin, and how many bytes it has. -/
def numRd (s : List UInt8) : Option (Int × Nat) := match rdAcc 9 0 0 s with
  | some (v, n) => if numB v = s.take n then some (v, n) else none
  | none => none
def rdV (x : Option (Int × Nat)) : Value := match x with
  | some (v, n) => .tuple #[.int .i64 v, .int .i64 (n : Nat)]
  | none => .tuple #[.int .i64 0, .int .i64 0]

theorem str_extract (s : List UInt8) (a b : Nat) : (str s).extract a b = str ((s.drop a).take (b - a)) := by
  have : ((str s).extract a b).data = (str ((s.drop a).take (b - a))).data := by
    rw [ByteArray.data_extract]; simp [str]
  cases h : (str s).extract a b
  rw [h] at this
  simp only [str] at this ⊢
  rw [this]
theorem str_at (s : List UInt8) (k : Nat) (h : k < (str s).size) (h2 : k < s.length) : (str s)[k]'h = s[k] := rfl
theorem str_beq (a b : List UInt8) : ((str a).toList == (str b).toList) = (a == b) := by rw [str_toList, str_toList]

theorem pow128 (i : Nat) (h : i ≤ 8) : (128 : Int) ^ i ≤ 72057594037927936 ∧ 0 < (128 : Int) ^ i := by
  have : i = 0 ∨ i = 1 ∨ i = 2 ∨ i = 3 ∨ i = 4 ∨ i = 5 ∨ i = 6 ∨ i = 7 ∨ i = 8 := by omega
  rcases this with rfl | rfl | rfl | rfl | rfl | rfl | rfl | rfl | rfl <;> decide

set_option maxRecDepth 100000 in
set_option maxHeartbeats 4000000 in
theorem rnum_any (s : List UInt8) (w : World) (hs : s.length ≤ 9223372036854775807) :
    Calls Tryz.prog 95 #[.string (str s)] w fun e w' => e = .returned (rdV (numRd s)) ∧ Below w.heap.size w w' := by
  have hz := str_size s
  have HZ : Hid ((str s).size = s.length) := hz
  clear hz
  have hs2 : (str s).size ≤ 9223372036854775807 := by rw [HZ.out]; exact hs
  go_enter Tryz.func95, Tryz.ntmps95
  go_wp2
  go_loopw [4, 5, 6] (fun u q _ wr => ∃ (i : Nat) (v : Int), i ≤ 9 ∧ i ≤ (str s).size ∧ q = .int .i64 i ∧ u = .int .i64 v ∧ 0 ≤ v ∧ v < 128 ^ i ∧ rdAcc (9 - i) i v (s.drop i) = rdAcc 9 0 0 s ∧ wr = w) (fun _ q _ _ => 9 - (intOf q).toNat)
  case atStart => exact ⟨0, 0, by omega, by omega, rfl, rfl, by omega, by omega, rfl, rfl⟩
  case round =>
    obtain ⟨i, v, hi9, hi, rfl, rfl, v0, v1, hr, hw⟩ := hrel
    obtain rfl := hw.symm
    have HR : Hid (rdAcc (9 - i) i v (s.drop i) = rdAcc 9 0 0 s) := hr
    clear hr
    by_cases hlt : i < (str s).size
    · by_cases hl9 : i < 9
      · have hlt2 : i < s.length := by rw [← HZ.out]; exact hlt
        have hp := pow128 i (by omega)
        have HV : Hid (v < 128 ^ i) := v1
        clear v1
        have hb := (s[i]).toNat_lt
        have ev : wrap64 (v + wrap64 ((wrap64 (((str s)[i]'hlt).toNat : Int)).tmod 128 * 2 ^ (7 * i))) = v + ((s[i].toNat % 128 : Nat) : Int) * 128 ^ i := by
          have e0 : ((str s)[i]'hlt).toNat = s[i].toNat := rfl
          have e1 : (2 : Int) ^ (7 * i) = 128 ^ i := by rw [Int.pow_mul]; rfl
          rw [e0, e1]
          have e2 : wrap64 (s[i].toNat : Int) = (s[i].toNat : Int) := by unfold wrap64; omega
          rw [e2]
          have e3 : (s[i].toNat : Int).tmod 128 = ((s[i].toNat % 128 : Nat) : Int) := by rw [Int.tmod_eq_emod_of_nonneg (by omega)]; omega
          rw [e3]
          have h1 : ((s[i].toNat % 128 : Nat) : Int) * 128 ^ i ≤ 127 * 128 ^ i := Int.mul_le_mul_of_nonneg_right (by omega) (by omega)
          have h0 : 0 ≤ ((s[i].toNat % 128 : Nat) : Int) * 128 ^ i := Int.mul_nonneg (by omega) (by omega)
          have h2 := HV.out
          generalize ((s[i].toNat % 128 : Nat) : Int) * 128 ^ i = m at *
          generalize (128 : Int) ^ i = q at *
          unfold wrap64
          omega
        have hv' : 0 ≤ v + ((s[i].toNat % 128 : Nat) : Int) * 128 ^ i ∧ v + ((s[i].toNat % 128 : Nat) : Int) * 128 ^ i < 128 ^ (i + 1) ∧ v + ((s[i].toNat % 128 : Nat) : Int) * 128 ^ i ≤ 9223372036854775807 := by
          have h1 : ((s[i].toNat % 128 : Nat) : Int) * 128 ^ i ≤ 127 * 128 ^ i := Int.mul_le_mul_of_nonneg_right (by omega) (by omega)
          have h0 : 0 ≤ ((s[i].toNat % 128 : Nat) : Int) * 128 ^ i := Int.mul_nonneg (by omega) (by omega)
          have h2 := HV.out
          rw [Int.pow_succ]
          generalize ((s[i].toNat % 128 : Nat) : Int) * 128 ^ i = m at *
          generalize (128 : Int) ^ i = q at *
          omega
        have hstep : rdAcc 9 0 0 s = if s[i].toNat < 128 then some (v + ((s[i].toNat % 128 : Nat) : Int) * 128 ^ i, i + 1) else rdAcc (9 - (i + 1)) (i + 1) (v + ((s[i].toNat % 128 : Nat) : Int) * 128 ^ i) (s.drop (i + 1)) := by
          rw [← HR.out, List.drop_eq_getElem_cons hlt2, show 9 - i = (9 - (i + 1)) + 1 by omega]
          rfl
        have HS : Hid (rdAcc 9 0 0 s = if s[i].toNat < 128 then some (v + ((s[i].toNat % 128 : Nat) : Int) * 128 ^ i, i + 1) else rdAcc (9 - (i + 1)) (i + 1) (v + ((s[i].toNat % 128 : Nat) : Int) * 128 ^ i) (s.drop (i + 1))) := hstep
        have HE : Hid (wrap64 (v + wrap64 ((wrap64 (((str s)[i]'hlt).toNat : Int)).tmod 128 * 2 ^ (7 * i))) = v + ((s[i].toNat % 128 : Nat) : Int) * 128 ^ i) := ev
        have HE2 : Hid (wrap64 (v + wrap64 ((((str s)[i]'hlt).toNat : Int) % 128 * 2 ^ (7 * i))) = v + ((s[i].toNat % 128 : Nat) : Int) * 128 ^ i) := by
          have e0 : ((str s)[i]'hlt).toNat = s[i].toNat := rfl
          show _ = _
          rw [← ev, e0]
          have e2 : wrap64 (s[i].toNat : Int) = (s[i].toNat : Int) := by unfold wrap64; omega
          rw [e2, Int.tmod_eq_emod_of_nonneg (by omega)]
        clear hstep ev HR
        generalize hV : v + ((s[i].toNat % 128 : Nat) : Int) * 128 ^ i = V at *
        clear hV
        by_cases hc : ((str s)[i]'hlt).toNat < 128
        · have hacc : rdAcc 9 0 0 s = some (V, i + 1) := by rw [HS.out]; exact if_pos hc
          have HA : Hid (rdAcc 9 0 0 s = some (V, i + 1)) := hacc
          clear hacc HS
          go_wp2_with fail
          first | rw [HE.out] | rw [HE2.out]
          refine (rnumber_any V _ hv'.1 hv'.2.2).mono ?_
          rintro e w' ⟨rfl, hb'⟩
          have hx : (str s).extract 0 (i + 1) = str (s.take (i + 1)) := by rw [str_extract]; simp
          have hle : ((i : Int) + 1) ≤ ((str s).size : Int) := by omega
          by_cases hq : numB V = s.take (i + 1)
          · have hbq : ((str (numB V)).toList == (str (s.take (i + 1))).toList) = true := by rw [str_beq, hq]; simp
            have HN : Hid (numRd s = some (V, i + 1)) := by show _ = _; unfold numRd; rw [HA.out]; simp only; rw [if_pos hq]
            clear hq
            go_wp2_with fail
            go_ret2
            exact ⟨by rw [HN.out]; rfl, hb'⟩
          · have hbq : ((str (numB V)).toList == (str (s.take (i + 1))).toList) = false := by rw [str_beq, beq_eq_false_iff_ne]; exact hq
            have HN : Hid (numRd s = none) := by show _ = _; unfold numRd; rw [HA.out]; simp only; rw [if_neg hq]
            clear hq
            go_wp2_with fail
            go_ret2
            exact ⟨by rw [HN.out]; rfl, hb'⟩
        · have hacc : rdAcc (9 - (i + 1)) (i + 1) V (s.drop (i + 1)) = rdAcc 9 0 0 s := by rw [HS.out]; exact (if_neg hc).symm
          have HA : Hid (rdAcc (9 - (i + 1)) (i + 1) V (s.drop (i + 1)) = rdAcc 9 0 0 s) := hacc
          clear hacc HS
          go_wp2_with fail
          first | rw [HE.out] | rw [HE2.out]
          go_roundw
          case rel => exact ⟨i + 1, V, by omega, by omega, by go_num, rfl, hv'.1, hv'.2.1, HA.out, by first | rfl | trivial⟩
          case measure => simp [intOf]; omega
      · have HN : Hid (numRd s = none) := by
          have : 9 - i = 0 := by omega
          have h := HR.out
          rw [this] at h
          show _ = _; unfold numRd; rw [← h]; rfl
        go_wp2_with fail
        go_ret2
        exact ⟨by rw [HN.out]; rfl, Below.refl _ _⟩
    · have HN : Hid (numRd s = none) := by
        have h := HR.out
        rw [List.drop_of_length_le (by rw [← HZ.out]; omega)] at h
        have : rdAcc (9 - i) i v [] = none := by cases 9 - i <;> rfl
        show _ = _; unfold numRd; rw [← h, this]
      go_wp2_with fail
      go_ret2
      exact ⟨by rw [HN.out]; rfl, Below.refl _ _⟩

theorem rdAcc_le : ∀ (k i : Nat) (v : Int) (s : List UInt8) {v' : Int} {n : Nat}, rdAcc k i v s = some (v', n) → i < n ∧ n ≤ i + s.length
  | 0, _, _, _, _, _, h => by simp [rdAcc] at h
  | _ + 1, _, _, [], _, _, h => by simp [rdAcc] at h
  | k + 1, i, v, c :: s, v', n, h => by
    simp only [rdAcc] at h
    split at h
    · simp at h; simp; omega
    · have := rdAcc_le k (i + 1) _ s h; simp; omega
theorem rdAcc_num : ∀ (k i : Nat) (v : Int) (s : List UInt8) {v' : Int} {n : Nat}, rdAcc k i v s = some (v', n) → 0 ≤ v → v < 128 ^ i → i + k ≤ 9 → 0 ≤ v' ∧ v' < 128 ^ 9
  | 0, _, _, _, _, _, h, _, _, _ => by simp [rdAcc] at h
  | _ + 1, _, _, [], _, _, h, _, _, _ => by simp [rdAcc] at h
  | k + 1, i, v, c :: s, v', n, h, h0, h1, hk => by
    have hp := pow128 i (by omega)
    have m0 : 0 ≤ ((c.toNat % 128 : Nat) : Int) * 128 ^ i := Int.mul_nonneg (by omega) (by omega)
    have m1 : ((c.toNat % 128 : Nat) : Int) * 128 ^ i ≤ 127 * 128 ^ i := Int.mul_le_mul_of_nonneg_right (by omega) (by omega)
    simp only [rdAcc] at h
    split at h
    · simp at h
      obtain ⟨rfl, -⟩ := h
      simp only [Int.natCast_emod] at m0 m1
      have e9 : (128 : Int) ^ 9 = 9223372036854775808 := by decide
      rw [e9]
      have e : ((128 : Nat) : Int) = 128 := rfl
      simp only [e] at m0 m1
      generalize (128 : Int) ^ i = q at *
      omega
    · refine rdAcc_num k (i + 1) _ s h (by omega) ?_ (by omega)
      rw [Int.pow_succ]; omega
theorem numRd_le {s : List UInt8} {v : Int} {n : Nat} (h : numRd s = some (v, n)) : 0 < n ∧ n ≤ s.length ∧ Num v ∧ numB v = s.take n := by
  unfold numRd at h
  split at h
  · rename_i v' n' hr
    split at h
    · simp at h
      obtain ⟨rfl, rfl⟩ := h
      rename_i hq
      have h1 := rdAcc_le 9 0 0 s hr
      have h2 := rdAcc_num 9 0 0 s hr (by omega) (by decide) (by omega)
      have e9 : (128 : Int) ^ 9 = 9223372036854775808 := by decide
      rw [e9] at h2
      exact ⟨by omega, by omega, ⟨by omega, by omega⟩, hq⟩
    · cases h
  · cases h

/-- The k numbers with which bytes begin, and what is behind them. -/
def numsRd : Nat → List UInt8 → Option (List Int × List UInt8)
  | 0, s => some ([], s)
  | k + 1, s => match numRd s with
    | none => none
    | some (v, n) => match numsRd k (s.drop n) with
      | none => none
      | some (l, r) => some (v :: l, r)
def pre (a : List Int) (x : Option (List Int × List UInt8)) : Option (List Int × List UInt8) := x.map fun p => (a ++ p.1, p.2)
theorem numsRd_length : ∀ (k : Nat) (s : List UInt8) {l : List Int} {r : List UInt8}, numsRd k s = some (l, r) → l.length = k ∧ r.length ≤ s.length
  | 0, s, l, r, h => by simp [numsRd] at h; obtain ⟨rfl, rfl⟩ := h; simp
  | k + 1, s, l, r, h => by
    simp only [numsRd] at h
    split at h
    · cases h
    · split at h
      · cases h
      · rename_i hh
        simp at h
        obtain ⟨rfl, rfl⟩ := h
        have := numsRd_length k _ hh
        simp at this ⊢
        omega
theorem pre_some (a : List Int) (l : List Int) (r : List UInt8) : pre a (some (l, r)) = some (a ++ l, r) := rfl
theorem numsRd_step {a : List Int} {k : Nat} {s : List UInt8} {v : Int} {n : Nat} (h : numRd s = some (v, n)) : pre a (numsRd (k + 1) s) = pre (a ++ [v]) (numsRd k (s.drop n)) := by
  simp only [numsRd, h]
  cases numsRd k (s.drop n) with
  | none => rfl
  | some p => obtain ⟨l, r⟩ := p; simp [pre]
theorem numsRd_none {a : List Int} {k : Nat} {s : List UInt8} (h : numRd s = none) : pre a (numsRd (k + 1) s) = none := by
  simp only [numsRd, h]; rfl

/-- What numbers answers. -/
def NumsAns (s : List UInt8) (k : Nat) (w : World) (e : Ending) (w' : World) : Prop :=
  match numsRd k s with
  | none => e = .returned (.tuple #[.slice none 0 0, .string ⟨#[]⟩, .bool false])
  | some (l, r) => ∃ ad cap, e = .returned (.tuple #[.slice ad k cap, .string (str r), .bool true]) ∧ Vec w' w.heap.size 3 1 ad k cap (l.map (Value.int .i64))

set_option maxRecDepth 100000 in
set_option maxHeartbeats 4000000 in
theorem rnums_any (s : List UInt8) (k : Nat) (w : World) (hs : s.length ≤ 9223372036854775807) (hk : k ≤ 3) :
    Calls Tryz.prog 83 #[.string (str s), .int .i64 k] w fun e w' => NumsAns s k w e w' ∧ Below w.heap.size w w' := by
  go_enter Tryz.func83, Tryz.ntmps83
  go_wp2
  go_loopw [0, 7, 8, 9, 10] (fun u q i _ _ wr => ∃ (j : Nat) (t : List UInt8) (a : List Int) (ad : Option Addr) (cap : Nat), j ≤ k ∧ i = .int .i64 j ∧ u = .string (str t) ∧ t.length ≤ s.length ∧ q = .slice ad j cap ∧ pre a (numsRd (k - j) t) = numsRd k s ∧ Vec wr w.heap.size 3 1 ad j cap (a.map (Value.int .i64)) ∧ Below w.heap.size w wr) (fun _ _ i _ _ _ => k - (intOf i).toNat)
  case atStart => exact ⟨0, s, [], none, 0, Nat.zero_le _, rfl, rfl, Nat.le_refl _, rfl, by simp [pre], Vec.nil _ _ _ _, Below.refl _ _⟩
  case round =>
    obtain ⟨j, t, a, ad, cap, hj, rfl, rfl, ht, rfl, hp, hv, hb⟩ := hrel
    have HP : Hid (pre a (numsRd (k - j) t) = numsRd k s) := hp
    clear hp
    by_cases hlt : j < k
    · have ht2 : t.length ≤ 9223372036854775807 := by omega
      go_wp2_with fail
      refine (rnum_any t _ ht2).mono ?_
      rintro e w1 ⟨rfl, hb1⟩
      have hv1 := hv.keep hb1
      have hb2 : Below w.heap.size w w1 := hb.trans (hb1.mono hb.size)
      have hz := hb2.size
      clear hv hb hb1
      cases hn : numRd t with
      | none =>
        have HN : Hid (numsRd k s = none) := by
          show _ = _; rw [← HP.out, show k - j = (k - (j + 1)) + 1 by omega]; exact numsRd_none hn
        simp only [rdV]
        clear hn
        go_wp2_with fail
        go_ret3
        refine ⟨?_, hb2⟩
        unfold NumsAns; rw [HN.out]; rfl
      | some p =>
        obtain ⟨v, n⟩ := p
        obtain ⟨n0, n1, nv, -⟩ := numRd_le hn
        have HN : Hid (pre (a ++ [v]) (numsRd (k - (j + 1)) (t.drop n)) = numsRd k s) := by
          show _ = _; rw [← HP.out, show k - j = (k - (j + 1)) + 1 by omega]; exact (numsRd_step hn).symm
        simp only [rdV]
        clear hn
        have hnz : ((n : Int) == 0) = false := by simp; omega
        have hle : (n : Int) ≤ ((str t).size : Int) := by rw [str_size]; omega
        have hx : (str t).extract n (str t).size = str (t.drop n) := by rw [str_extract, str_size, List.take_of_length_le (by simp)]
        go_wp2_with (at_builtin; refine wpList_push (by rfl) _ _ 103 (by rfl) w.heap.size 3 1 8 (.int .i64 0) Tryz.underlying103 (by kernel_rfl) rfl (by decide) ad j cap _ (by rfl) (hv1.keep ((Below.refl _ _).alloc (Nat.le_refl _) _)) _ _ [.int .i64 v] (by rfl) rfl ?_ ?_ ?_ ?_ ?_ ?_; exact new_cells _ _ _; (simp [Value.oneCell']); (omega); (omega); (simp; omega); intro ad' cap' w' hv' hb' hs')
        have hb3 : Below w.heap.size w w' := (hb2.alloc hz _).trans hb'
        go_roundw
        case rel => exact ⟨j + 1, t.drop n, a ++ [v], ad', cap', by omega, by go_num, rfl, by simp; omega, rfl, HN.out, by simpa using hv', hb3⟩
        case measure => simp [intOf]; omega
    · have HN : Hid (numsRd k s = some (a, t)) := by
        show _ = _; rw [← HP.out, show k - j = 0 by omega]; simp [numsRd, pre]
      obtain rfl : j = k := by omega
      go_wp2_with fail
      go_ret3
      refine ⟨?_, hb⟩
      unfold NumsAns; rw [HN.out]
      exact ⟨ad, cap, rfl, hv⟩
end Go.Proofs.YtdjpkgaicmklmaaGreat

/- Variables of the call's own that hold a struct: made, read, written, whole or by a field; the world stays a name. -/
namespace Go.Proofs.YtdjpkgaicmklmaaGreat
open Go.RowKit

/-- A variable of the call's own: its block and its cells. -/
structure Bx (w : World) (g e : Nat) (cs : List Value) : Prop where
  h : w.heap[g]? = some (.cells cs.toArray e)

theorem Bx.lt {w : World} {g e : Nat} {cs : List Value} (b : Bx w g e cs) : g < w.heap.size := (Array.getElem?_eq_some_iff.1 b.h).1
theorem Bx.cell {w : World} {g e : Nat} {cs : List Value} (b : Bx w g e cs) (k : Nat) : w.cell? ⟨g, k, none⟩ = cs[k]? := by
  simp [World.cell?, b.h]
theorem Bx.below {w w' : World} {B g e : Nat} {cs : List Value} (b : Bx w g e cs) (hb : Below B w w') (hg : g < B) : Bx w' g e cs := ⟨by rw [hb.block g hg]; exact b.h⟩
theorem Bx.own {w : World} {g e m : Nat} {cs : List Value} (b : Bx w g e cs) (hm : cs.length = m) : Own w g e m [cs] := ⟨by intro r hr; simp at hr; subst hr; exact hm, by simpa using b.h⟩
theorem Own.bx {w : World} {g e m : Nat} {cs : List Value} (b : Own w g e m [cs]) : Bx w g e cs := ⟨by simpa using b.block⟩
theorem Bx.upd {w w' : World} {g g' e : Nat} {cs : List Value} (b : Bx w g e cs) (hu : Upd g' w w') (hg : g ≠ g') : Bx w' g e cs := ((b.own rfl).upd hu hg).bx
theorem Bx.new (w : World) (e : Nat) (cs : Array Value) : Bx (w.alloc (.cells cs e)) w.heap.size e cs.toList := ⟨by show (w.heap.push _)[w.heap.size]? = _; simp⟩
theorem Bx.alloc {w : World} {g e : Nat} {cs : List Value} (b : Bx w g e cs) (o : Obj) : Bx (w.alloc o) g e cs := b.below ((Below.refl w.heap.size w).alloc (Nat.le_refl _) o) b.lt
theorem Bx.drewN {w : World} {g e : Nat} {cs : List Value} (b : Bx w g e cs) (n : Nat) : Bx (w.drewN n) g e cs := ⟨b.h⟩

section
variable {P : Program} {w : World} {ops : Array Oper} {rest : List Oper} {o : Oper} {a : Act} {Q : Exit → Act → World → Prop}

/-- 'var x T': a new variable. -/
theorem wpList_bnew (hgd : o.guard = none) (t : TypeId) (cs : List Value) (hz : ∀ w : World, (execOp a.eval o).run P w = .ok (.value (.pointer (some ⟨w.heap.size, 0, none⟩))) (w.alloc (.cells cs.toArray t)))
    (h : ∀ g w', g = w.heap.size → w'.heap.size = g + 1 → Bx w' g t cs → Below w.heap.size w w' → wpList P ops Q rest (a.put o.dst (.pointer (some ⟨g, 0, none⟩))) w') : wpList P ops Q (o :: rest) a w := by
  refine wpList_plain hgd fun K hK => ?_
  unfold Oper.wp
  rw [hz w]
  exact hK _ _ (h w.heap.size _ rfl (by show (w.heap.push _).size = _; simp) (by have := Bx.new w t cs.toArray; simpa using this) ((Below.refl _ _).alloc (Nat.le_refl _) _))

/-- A parameter's box: '&x' of a struct that was handed in. -/
theorem wpList_bbox (hgd : o.guard = none) (t : TypeId) (x : Operand) (ho : o.op = .box t x) (cs : List Value) (hx : a.eval x = .agg cs.toArray)
    (h : ∀ g w', g = w.heap.size → w'.heap.size = g + 1 → Bx w' g t cs → Below w.heap.size w w' → wpList P ops Q rest (a.put o.dst (.pointer (some ⟨g, 0, none⟩))) w') : wpList P ops Q (o :: rest) a w := by
  refine wpList_plain hgd fun K hK => ?_
  unfold Oper.wp execOp
  simp only [ho, hx, Value.cells, Sem.run_bind, Instr.box, newVar, newRow, run_newObj_alloc, Sem.run_pure, Result.andThen_ok]
  exact hK _ _ (h w.heap.size _ rfl (by show (w.heap.push _).size = _; simp) (by have := Bx.new w t cs.toArray; simpa using this) ((Below.refl _ _).alloc (Nat.le_refl _) _))

/-- The whole of it is read. -/
theorem wpList_bload (hgd : o.guard = none) (t : TypeId) (x : Operand) (ho : o.op = .load t x) (g e : Nat) (hx : a.eval x = .pointer (some ⟨g, 0, none⟩)) (cs : List Value) (hb : Bx w g e cs) (d : TypeDesc)
    (hu : P.underlying t = some d) (hd : (match d with | .struct _ | .array _ _ => true | _ => false) = true) (m : Nat) (hm : cs.length = m) (hi : (P.info? t).map (·.size) = some m)
    (h : wpList P ops Q rest (a.put o.dst (.agg cs.toArray)) w) : wpList P ops Q (o :: rest) a w :=
  wpList_load_row hgd t x ho g hx e cs.toArray _ d hb.h hu hd (by simpa [hm] using hi) h

/-- A field is read. -/
theorem wpList_bget (hgd : o.guard = none) (t : TypeId) (x : Operand) (ho : o.op = .load t x) (g e k : Nat) (hx : a.eval x = .pointer (some ⟨g, k, none⟩)) (cs : List Value) (hb : Bx w g e cs) (v : Value) (hv : cs[k]? = some v) (d : TypeDesc)
    (hu : P.underlying t = some d) (hd : (match d with | .struct _ | .array _ _ => true | _ => false) = false)
    (h : wpList P ops Q rest (a.put o.dst v) w) : wpList P ops Q (o :: rest) a w := by
  refine wpList_plain hgd fun K hK => ?_
  have hagg : (isAgg t).run P w = .ok false w := by
    unfold isAgg
    rw [Sem.run_bind, run_underlying hu w]
    cases d <;> simp_all
  have hc := hb.cell k
  rw [hv] at hc
  have hl : (load ⟨g, k, none⟩).run P w = .ok v w := by rw [run_load, hc]
  unfold Oper.wp execOp
  simp only [ho, hx, Instr.loadAt, Instr.sureAddr, Sem.run_bind, Sem.run_pure, Result.andThen_ok, loadVar, hagg]
  simp [hl, Result.andThen_ok]
  exact hK _ _ h

/-- The whole of it is written. -/
theorem wpList_bstore (hgd : o.guard = none) (p v : Operand) (t : TypeId) (ho : o.op = .store t p v) (g e : Nat) (hp : a.eval p = .pointer (some ⟨g, 0, none⟩)) (cs vs : List Value) (hv : a.eval v = .agg vs.toArray)
    (hb : Bx w g e cs) (m : Nat) (hm : vs.length = m) (hs : (P.info? t).map (·.size) = some m) (hl : cs.length = m) (h1 : ∀ x, x ∈ vs → x.oneCell' = true)
    (h : ∀ w', Bx w' g e vs → Upd g w w' → wpList P ops Q rest (a.put o.dst undef) w') : wpList P ops Q (o :: rest) a w := by
  refine wpList_store_rows hgd p v t ho e m hs g 0 ⟨g, 0, none⟩ (by simp) hp vs hv hm h1 [cs] (hb.own hl) (by simp) ?_
  intro w' ho' hu
  exact h w' (Own.bx (by simpa using ho')) hu

/-- A field is written. -/
theorem wpList_bput (hgd : o.guard = none) (p v : Operand) (t : TypeId) (ho : o.op = .store t p v) (g e k : Nat) (hp : a.eval p = .pointer (some ⟨g, k, none⟩)) (cs : List Value) (x : Value) (hv : a.eval v = x)
    (hb : Bx w g e cs) (hs : (P.info? t).map (·.size) = some 1) (hk : k < cs.length) (h1 : x.oneCell' = true) (hc : x.cells = #[x])
    (h : ∀ w', Bx w' g e (cs.set k x) → Upd g w w' → wpList P ops Q rest (a.put o.dst undef) w') : wpList P ops Q (o :: rest) a w := by
  refine wpList_plain hgd fun K hK => ?_
  have hst := run_storeCells_at P g k e [x] 0 cs.toArray w hb.h (by simp; omega) (by simpa using h1)
  have e2 : cs.toArray.toList.take (k + 0) ++ [x] ++ cs.toArray.toList.drop (k + 0 + [x].length) = cs.set k x := by
    simp [List.set_eq_take_append_cons_drop, hk]
  rw [e2] at hst
  cases hq : P.info? t with
  | none => simp [hq] at hs
  | some inf =>
    have hi' : inf.size = 1 := by simpa [hq] using hs
    unfold Oper.wp
    simp [execOp, ho, hp, hv, Instr.storeAt, Instr.sureAddr, storeVar, sizeOf, typeInfo, hq, hi', hc, hst, Result.andThen]
    exact hK _ _ (h _ ⟨setRow_heap w g _ _ e _ hb.h⟩ (Upd.setRow _ _ _))
end

/-- A call's results of which the first lies in a variable of the call's own. -/
theorem results_box2 {P : Program} {fn : Func} {p q : Nat} {ty : TypeId} (h : fn.results = #[.cell p ty, .tmp q]) (tmps : Array Value) (w : World) (g e : Nat) (cs : List Value) (d : TypeDesc) (v : Value)
    (hp : tmps.getD p undef = .pointer (some ⟨g, 0, none⟩)) (hb : Bx w g e cs) (hq : tmps.getD q undef = v)
    (hu : P.underlying ty = some d) (hd : (match d with | .struct _ | .array _ _ => true | _ => false) = true) (m : Nat) (hm : cs.length = m) (hi : (P.info? ty).map (·.size) = some m) :
    (results fn tmps).run P w = .ok (.tuple #[.agg cs.toArray, v]) w := by
  have hp' : tmps[p]?.getD undef = .pointer (some ⟨g, 0, none⟩) := by simpa using hp
  have hq' : tmps[q]?.getD undef = v := by simpa using hq
  simp [results, h, hp', hq', asAddr, run_loadVar_row w g e ty cs.toArray _ d hb.h hu hd (by simpa [hm] using hi)]
theorem results_box3 {P : Program} {fn : Func} {p q r : Nat} {ty : TypeId} (h : fn.results = #[.cell p ty, .tmp q, .tmp r]) (tmps : Array Value) (w : World) (g e : Nat) (cs : List Value) (d : TypeDesc) (v u : Value)
    (hp : tmps.getD p undef = .pointer (some ⟨g, 0, none⟩)) (hb : Bx w g e cs) (hq : tmps.getD q undef = v) (hr : tmps.getD r undef = u)
    (hu : P.underlying ty = some d) (hd : (match d with | .struct _ | .array _ _ => true | _ => false) = true) (m : Nat) (hm : cs.length = m) (hi : (P.info? ty).map (·.size) = some m) :
    (results fn tmps).run P w = .ok (.tuple #[.agg cs.toArray, v, u]) w := by
  have hp' : tmps[p]?.getD undef = .pointer (some ⟨g, 0, none⟩) := by simpa using hp
  have hq' : tmps[q]?.getD undef = v := by simpa using hq
  have hr' : tmps[r]?.getD undef = u := by simpa using hr
  simp [results, h, hp', hq', hr', asAddr, run_loadVar_row w g e ty cs.toArray _ d hb.h hu hd (by simpa [hm] using hi)]
theorem results_box1 {P : Program} {fn : Func} {p : Nat} {ty : TypeId} (h : fn.results = #[.cell p ty]) (tmps : Array Value) (w : World) (g e : Nat) (cs : List Value) (d : TypeDesc)
    (hp : tmps.getD p undef = .pointer (some ⟨g, 0, none⟩)) (hb : Bx w g e cs)
    (hu : P.underlying ty = some d) (hd : (match d with | .struct _ | .array _ _ => true | _ => false) = true) (m : Nat) (hm : cs.length = m) (hi : (P.info? ty).map (·.size) = some m) :
    (results fn tmps).run P w = .ok (.agg cs.toArray) w :=
  results_cell_row h tmps w g e cs.toArray _ d hp hb.h hu hd (by simpa [hm] using hi)
theorem two_boxes (w : World) (e1 e2 : Nat) (a b : Array Value) : Bx ((w.alloc (.cells a e1)).alloc (.cells b e2)) w.heap.size e1 a.toList ∧ Bx ((w.alloc (.cells a e1)).alloc (.cells b e2)) (w.heap.size + 1) e2 b.toList ∧
    ((w.alloc (.cells a e1)).alloc (.cells b e2)).heap.size = w.heap.size + 2 ∧ Below w.heap.size w ((w.alloc (.cells a e1)).alloc (.cells b e2)) := by
  have hs : (w.alloc (.cells a e1)).heap.size = w.heap.size + 1 := by show (w.heap.push _).size = _; simp
  have h2 := Bx.new (w.alloc (.cells a e1)) e2 b
  rw [hs] at h2
  exact ⟨(Bx.new w e1 a).alloc _, h2, by show ((w.alloc _).heap.push _).size = _; simp [hs], ((Below.refl _ _).alloc (Nat.le_refl _) _).alloc (by rw [hs]; omega) _⟩
theorem one_box (w : World) (e : Nat) (a : Array Value) : Bx (w.alloc (.cells a e)) w.heap.size e a.toList ∧ (w.alloc (.cells a e)).heap.size = w.heap.size + 1 ∧ Below w.heap.size w (w.alloc (.cells a e)) :=
  ⟨Bx.new w e a, by show (w.heap.push _).size = _; simp, (Below.refl _ _).alloc (Nat.le_refl _) _⟩

/-- A list that is not empty lies in such a variable. -/
theorem Vec.bx {w : World} {B e m : Nat} {ad : Option Addr} {n cap : Nat} {xs : List Value} (h : Vec w B e m ad n cap xs) (hn : 0 < n) : ∃ g sp, ad = some ⟨g, 0, none⟩ ∧ B ≤ g ∧ g < w.heap.size ∧ Bx w g e (xs ++ sp) := by
  rcases h.2 with ⟨h2, _⟩ | ⟨g, c, cur, hv, hB, hg, _, _, _, ht⟩
  · omega
  · simp at hv
    refine ⟨g, cur.toList.drop xs.length, hv.1, hB, (Array.getElem?_eq_some_iff.1 hg).1, ⟨?_⟩⟩
    have e : xs ++ cur.toList.drop xs.length = cur.toList := by
      have := List.take_append_drop xs.length cur.toList
      rw [show xs.length = n * m from h.1] at this ⊢
      rw [← this, ht]
      simp [show xs.length = n * m from h.1]
    rw [e, hg]
theorem Vec.upd {w w' : World} {B e m g : Nat} {ad : Option Addr} {n cap : Nat} {xs : List Value} (h : Vec w B e m ad n cap xs) (hu : Upd g w w') (hg : g < B) : Vec w' B e m ad n cap xs := by
  refine ⟨h.1, ?_⟩
  rcases h.2 with h2 | ⟨k, c, cur, hv, hB, hk, r⟩
  · exact Or.inl h2
  · exact Or.inr ⟨k, c, cur, hv, hB, by rw [hu.block k (by omega)]; exact hk, r⟩
end Go.Proofs.YtdjpkgaicmklmaaGreat

/- Records read back: the reference's four and record, walked. -/
namespace Go.Proofs.YtdjpkgaicmklmaaGreat
open Go.RowKit

/-- The number of four bytes. -/
def fourRd (s : List UInt8) : Int := ((s.getD 0 0).toNat : Int) * 16777216 + ((s.getD 1 0).toNat : Int) * 65536 + ((s.getD 2 0).toNat : Int) * 256 + ((s.getD 3 0).toNat : Int)

set_option maxRecDepth 100000 in
set_option maxHeartbeats 4000000 in
theorem rfour_rd (s : List UInt8) (w : World) (hs : s.length = 4) :
    Calls Tryz.prog 15 #[.string (str s)] w fun e w' => e = .returned (.int .i64 (fourRd s)) ∧ ∃ n, w' = w.drewN n := by
  have hz : (str s).size = 4 := by rw [str_size, hs]
  have HZ : Hid ((str s).size = 4) := hz
  have h0 : 0 < (str s).size := by omega
  have h1 : 1 < (str s).size := by omega
  have h2 : 2 < (str s).size := by omega
  have h3 : 3 < (str s).size := by omega
  have k0 : ((str s)[0]'h0) = s.getD 0 0 := by simp [List.getD, hs]; rfl
  have k1 : ((str s)[1]'h1) = s.getD 1 0 := by simp [List.getD, hs]; rfl
  have k2 : ((str s)[2]'h2) = s.getD 2 0 := by simp [List.getD, hs]; rfl
  have k3 : ((str s)[3]'h3) = s.getD 3 0 := by simp [List.getD, hs]; rfl
  have ha := (s.getD 0 0).toNat_lt; have hb := (s.getD 1 0).toNat_lt; have hc := (s.getD 2 0).toNat_lt; have hd := (s.getD 3 0).toNat_lt
  have HF : Hid (fourRd s = ((s.getD 0 0).toNat : Int) * 16777216 + ((s.getD 1 0).toNat : Int) * 65536 + ((s.getD 2 0).toNat : Int) * 256 + ((s.getD 3 0).toNat : Int)) := rfl
  generalize s.getD 0 0 = a at *
  generalize s.getD 1 0 = b at *
  generalize s.getD 2 0 = c at *
  generalize s.getD 3 0 = d at *
  clear hz hs
  go_enter Tryz.func15, Tryz.ntmps15
  go_wp2_with fail
  go_quiet (fail)
  go_wp2
  go_ret
  exact ⟨ret_int HF.out.symm, _, rfl⟩

/-- What bytes are, as a record. -/
def recRd : List UInt8 → Option Fd
  | [] => none
  | c :: s =>
    if c = 4 then match numsRd 1 s with
      | some ([q], r) => if q = 0 then (if r = [] then some (fdHead 0 0) else none) else if r.length = 4 then some (fdHead q (fourRd r)) else none
      | _ => none
    else if c = 1 then match numsRd 2 s with
      | some ([a, b], r) => if r = [] then some (fdClock ⟨a, b⟩) else none
      | _ => none
    else if c = 2 then match numsRd 3 s with
      | some ([a, b, d], g :: t) => if g.toNat ≤ 1 then some (fdCard ⟨a, b, d, g == 1, str t⟩) else none
      | _ => none
    else if c = 3 then match numsRd 1 s with
      | some ([a], t) => some (fdEdit ⟨a, str t⟩)
      | _ => none
    else none

abbrev fdV (f : Fd) : Value := .agg f.cells.toArray
def fd0 : Fd := ⟨0, 0, 0, 0, 0, 0, 0, false, ⟨#[]⟩⟩

/-- What record answers. -/
def RecAns (s : List UInt8) (e : Ending) : Prop := ∃ (f : Fd) (b : Bool), e = .returned (.tuple #[fdV f, .bool b]) ∧ recRd s = if b then some f else none


/-- A record of which the kind alone is known. -/
def fdK (k : Int) : Fd := ⟨0, k, 0, 0, 0, 0, 0, false, ⟨#[]⟩⟩

set_option maxRecDepth 100000 in
set_option maxHeartbeats 4000000 in
theorem rec_edit (s : List UInt8) (w : World) (hs : s.length ≤ 9223372036854775806) :
    Calls Tryz.prog 64 #[.string (str (3 :: s))] w fun e w' => RecAns (3 :: s) e ∧ Below w.heap.size w w' := by
  have h0 : 0 < (str (3 :: s)).size := by rw [str_size]; simp
  have hx : (str (3 :: s)).extract 1 (str (3 :: s)).size = str s := by rw [str_extract, str_size]; simp
  have hne : (str (3 :: s)).toList.isEmpty = false := by rw [str_toList]; rfl
  have hk : wrap64 (((str (3 :: s))[0]'h0).toNat : Int) = 3 := by
    have e : ((str (3 :: s))[0]'h0).toNat = 3 := rfl
    rw [e]; unfold wrap64; omega
  have hle : (1 : Int) ≤ ((str (3 :: s)).size : Int) := by omega
  go_enter Tryz.func64, Tryz.ntmps64
  go_wp2_with fail
  obtain ⟨hR, hF, hW, hB⟩ := two_boxes w 64 64 fd0.cells.toArray #[.int .i64 0, .int .i64 3, .int .i64 0, .int .i64 0, .int .i64 0, .int .i64 0, .int .i64 0, .bool false, .string ⟨#[]⟩]
  refine (rnums_any s 1 _ (by omega) (by omega)).mono ?_
  rintro e w2 ⟨hA, hb2⟩
  replace hF := hF.below hb2 hF.lt
  replace hR := hR.below hb2 hR.lt
  have hB2 : Below w.heap.size w w2 := hB.trans (hb2.mono (Nat.le_trans (by omega : w.heap.size ≤ w.heap.size + 2) (Nat.le_of_eq hW.symm)))
  clear hB hx hne hk hle
  unfold NumsAns at hA
  cases hn : numsRd 1 s with
  | none =>
    rw [hn] at hA
    obtain rfl := hA
    have HN : Hid (recRd (3 :: s) = none) := by show _ = _; simp [recRd, hn]
    clear hn
    go_wp2_with (first
      | (refine wpList_bput (by rfl) _ _ 3 (by rfl) (w.heap.size + 1) 64 _ (by rfl) _ (.int .i64 _) (by rfl) hF (by kernel_rfl) (by simp) (by rfl) (by rfl) ?_; intro w9 hF9 hU9; replace hF := hF9; replace hR := hR.upd hU9 (by omega); replace hB2 := hU9.below hB2 (by omega); clear hF9 hU9; dsimp only [List.set] at hF)
      | (refine wpList_bput (by rfl) _ _ 9 (by rfl) (w.heap.size + 1) 64 _ (by rfl) _ (.string _) (by rfl) hF (by kernel_rfl) (by simp) (by rfl) (by rfl) ?_; intro w9 hF9 hU9; replace hF := hF9; replace hR := hR.upd hU9 (by omega); replace hB2 := hU9.below hB2 (by omega); clear hF9 hU9; dsimp only [List.set] at hF)
      | (refine wpList_bput (by rfl) _ _ 4 (by rfl) (w.heap.size + 1) 64 _ (by rfl) _ (.bool _) (by rfl) hF (by kernel_rfl) (by simp) (by rfl) (by rfl) ?_; intro w9 hF9 hU9; replace hF := hF9; replace hR := hR.upd hU9 (by omega); replace hB2 := hU9.below hB2 (by omega); clear hF9 hU9; dsimp only [List.set] at hF)
      | (refine wpList_bload (by rfl) _ _ (by rfl) (w.heap.size + 1) 64 (by rfl) _ hF _ Tryz.underlying64 (by rfl) 9 (by rfl) (by kernel_rfl) ?_)
      | (refine wpList_bstore (by rfl) _ _ _ (by rfl) w.heap.size 64 (by rfl) _ _ (by rfl) hR 9 (by rfl) (by kernel_rfl) (by rfl) (by intro x hx; simp at hx; rcases hx with rfl | rfl | rfl | rfl | rfl | rfl | rfl | rfl | rfl <;> rfl) ?_; intro w9 hR9 hU9; replace hR := hR9; replace hF := hF.upd hU9 (by omega); replace hB2 := hU9.below hB2 (by omega); clear hR9 hU9)
      | (refine wpList_bget (by rfl) 3 _ (by rfl) (w.heap.size + 1) 64 _ (by rfl) _ hF _ (by rfl) _ Tryz.underlying3 (by rfl) ?_))
    exact bodyPost_ret (v := .tuple #[fdV (fdK 3), .bool false]) (results_box2 (by rfl) _ _ w.heap.size 64 _ _ _ (by rfl) hR (by rfl) Tryz.underlying64 (by rfl) 9 (by rfl) (by kernel_rfl)) rfl ⟨⟨_, false, rfl, HN.out⟩, hB2⟩
  | some p =>
    obtain ⟨l, r⟩ := p
    rw [hn] at hA
    obtain ⟨ad, cap, rfl, hv⟩ := hA
    replace hv := hv.mono (show w.heap.size + 2 ≤ _ from Nat.le_of_eq hW.symm)
    have hl := (numsRd_length 1 s hn).1
    have hrl := (numsRd_length 1 s hn).2
    have hvl := hv.length
    obtain ⟨g, sp, rfl, hg, hgl, hL⟩ := hv.bx (by omega)
    clear hv hvl
    obtain ⟨q, rfl⟩ : ∃ q, l = [q] := by match l, hl with | [q], _ => exact ⟨q, rfl⟩
    have HN : Hid (recRd (3 :: s) = some (fdEdit ⟨q, str r⟩)) := by show _ = _; simp [recRd, hn]
    clear hn hl
    go_wp2_with (first
      | (refine wpList_bput (by rfl) _ _ 3 (by rfl) (w.heap.size + 1) 64 _ (by rfl) _ (.int .i64 _) (by rfl) hF (by kernel_rfl) (by simp) (by rfl) (by rfl) ?_; intro w9 hF9 hU9; replace hF := hF9; replace hR := hR.upd hU9 (by omega); replace hL := hL.upd hU9 (by omega); replace hB2 := hU9.below hB2 (by omega); clear hF9 hU9; dsimp only [List.set] at hF)
      | (refine wpList_bput (by rfl) _ _ 9 (by rfl) (w.heap.size + 1) 64 _ (by rfl) _ (.string _) (by rfl) hF (by kernel_rfl) (by simp) (by rfl) (by rfl) ?_; intro w9 hF9 hU9; replace hF := hF9; replace hR := hR.upd hU9 (by omega); replace hL := hL.upd hU9 (by omega); replace hB2 := hU9.below hB2 (by omega); clear hF9 hU9; dsimp only [List.set] at hF)
      | (refine wpList_bput (by rfl) _ _ 4 (by rfl) (w.heap.size + 1) 64 _ (by rfl) _ (.bool _) (by rfl) hF (by kernel_rfl) (by simp) (by rfl) (by rfl) ?_; intro w9 hF9 hU9; replace hF := hF9; replace hR := hR.upd hU9 (by omega); replace hL := hL.upd hU9 (by omega); replace hB2 := hU9.below hB2 (by omega); clear hF9 hU9; dsimp only [List.set] at hF)
      | (refine wpList_bload (by rfl) _ _ (by rfl) (w.heap.size + 1) 64 (by rfl) _ hF _ Tryz.underlying64 (by rfl) 9 (by rfl) (by kernel_rfl) ?_)
      | (refine wpList_bstore (by rfl) _ _ _ (by rfl) w.heap.size 64 (by rfl) _ _ (by rfl) hR 9 (by rfl) (by kernel_rfl) (by rfl) (by intro x hx; simp at hx; rcases hx with rfl | rfl | rfl | rfl | rfl | rfl | rfl | rfl | rfl <;> rfl) ?_; intro w9 hR9 hU9; replace hR := hR9; replace hF := hF.upd hU9 (by omega); replace hB2 := hU9.below hB2 (by omega); clear hR9 hU9)
      | (refine wpList_bget (by rfl) 3 _ (by rfl) (w.heap.size + 1) 64 _ (by rfl) _ hF _ (by rfl) _ Tryz.underlying3 (by rfl) ?_)
      | (refine wpList_bget (by rfl) 3 _ (by rfl) g 3 _ (by rfl) _ hL _ (by rfl) _ Tryz.underlying3 (by rfl) ?_))
    exact bodyPost_ret (v := .tuple #[fdV (fdEdit ⟨q, str r⟩), .bool true]) (results_box2 (by rfl) _ _ w.heap.size 64 _ _ _ (by rfl) hR (by rfl) Tryz.underlying64 (by rfl) 9 (by rfl) (by kernel_rfl)) rfl ⟨⟨_, true, rfl, HN.out⟩, hB2⟩
end Go.Proofs.YtdjpkgaicmklmaaGreat

/- Numbers and sums read back, without the program: when the bytes that were added up are those that are written. -/
namespace Go.Proofs.YtdjpkgaicmklmaaGreat
open Go.RowKit

/-- Digits, the lowest first. -/
def valB : List UInt8 → Int
  | [] => 0
  | c :: s => ((c.toNat % 128 : Nat) : Int) + 128 * valB s
/-- All but the last byte have 128 added. -/
def wfB : List UInt8 → Prop
  | [] => False
  | [c] => c.toNat < 128
  | c :: d :: t => 128 ≤ c.toNat ∧ wfB (d :: t)

theorem valB_nonneg : ∀ l, 0 ≤ valB l
  | [] => by simp [valB]
  | c :: s => by have := valB_nonneg s; simp only [valB]; omega
theorem byt_of (c : UInt8) (n : Int) (h : n = (c.toNat : Int)) : byt n = c := by
  subst h; simp [byt]
theorem numB_wf : ∀ (k : Nat) (l : List UInt8), wfB l → l.length ≤ k + 1 → ((numI k (valB l)).map byt = l ↔ (l.length = 1 ∨ l.getLast? ≠ some 0))
  | k, [], h, _ => h.elim
  | k, [c], h, _ => by
    have h : c.toNat < 128 := h
    have e : valB [c] = (c.toNat : Int) := by simp only [valB]; omega
    rw [e, numI_small k _ (by omega)]
    simp [byt_of c _ rfl]
  | 0, c :: d :: t, h, hl => by simp at hl
  | k + 1, c :: d :: t, h, hl => by
    obtain ⟨h1, h2⟩ := h
    have ih := numB_wf k (d :: t) h2 (by simp at hl ⊢; omega)
    have hn := valB_nonneg (d :: t)
    have hc := c.toNat_lt
    have e : valB (c :: d :: t) = ((c.toNat % 128 : Nat) : Int) + 128 * valB (d :: t) := rfl
    have hlast : (c :: d :: t).getLast? = (d :: t).getLast? := by simp [List.getLast?_cons]
    rw [hlast]
    simp only [numI]
    by_cases hv : valB (c :: d :: t) < 128
    · rw [if_pos hv]
      have h0 : valB (d :: t) = 0 := by omega
      constructor
      · intro h; have := congrArg List.length h; simp at this
      · intro h
        exfalso
        rcases h with h | h
        · simp at h
        · rw [h0] at ih
          have e0 : (numI k 0).map byt = [0] := by rw [numI_small k 0 (by omega)]; rfl
          rw [e0] at ih
          have := ih.2 (Or.inr h)
          rw [← this] at h
          exact h rfl
    · rw [if_neg hv]
      have hq : valB (c :: d :: t) / 128 = valB (d :: t) := by omega
      have hr : valB (c :: d :: t) % 128 + 128 = (c.toNat : Int) := by omega
      rw [hq, hr, List.map_cons, byt_of c _ rfl]
      constructor
      · intro h
        have h' : (numI k (valB (d :: t))).map byt = d :: t := by simpa using h
        rcases ih.1 h' with h3 | h3
        · right
          have ht : t = [] := by simpa using h3
          subst ht
          intro hh
          have hd : d = 0 := by simpa using hh
          subst hd
          have : valB [0] = 0 := rfl
          omega
        · exact Or.inr h3
      · intro h
        have h3 : (d :: t).getLast? ≠ some 0 := by
          rcases h with h | h
          · simp at h
          · exact h
        rw [ih.2 (Or.inr h3)]

theorem rdAcc_val : ∀ (k i : Nat) (v : Int) (s : List UInt8) {v' : Int} {n : Nat}, rdAcc k i v s = some (v', n) → wfB (s.take (n - i)) ∧ v' = v + valB (s.take (n - i)) * 128 ^ i ∧ (s.take (n - i)).length = n - i ∧ i < n ∧ n ≤ i + k
  | 0, _, _, _, _, _, h => by simp [rdAcc] at h
  | _ + 1, _, _, [], _, _, h => by simp [rdAcc] at h
  | k + 1, i, v, c :: s, v', n, h => by
    simp only [rdAcc] at h
    split at h
    · rename_i hc
      simp at h
      obtain ⟨rfl, rfl⟩ := h
      have e1 : i + 1 - i = 1 := by omega
      have : ((c.toNat % 128 : Nat) : Int) = (c.toNat : Int) % 128 := by omega
      rw [e1]
      simp [wfB, valB, hc]
    · rename_i hc
      obtain ⟨h1, h2, h3, h4, h5⟩ := rdAcc_val k (i + 1) _ s h
      have e1 : n - i = (n - (i + 1)) + 1 := by omega
      rw [e1, List.take_succ_cons]
      refine ⟨?_, ?_, by simpa using h3, by omega, by omega⟩
      · cases ht : s.take (n - (i + 1)) with
        | nil => rw [ht] at h1; exact h1.elim
        | cons d t => rw [ht] at h1; exact ⟨by omega, h1⟩
      · rw [h2, valB, Int.pow_succ]
        have : ∀ a b c q : Int, a + b * q + c * (q * 128) = a + (b + 128 * c) * q := by intro a b c q; rw [Int.add_mul]; have : c * (q * 128) = 128 * c * q := by rw [Int.mul_comm 128 c, Int.mul_assoc, Int.mul_comm q 128]
                                                                                        rw [this]; omega
        exact this _ _ _ _

/-- Bytes that were added up are those that are written, but for a needless 0 at the end. -/
theorem numRd_last {s : List UInt8} {v : Int} {i : Nat} (h : rdAcc 9 0 0 s = some (v, i + 1)) (hi : i < s.length) : numRd s = if s[i].toNat % 128 = 0 ∧ 0 < i then none else some (v, i + 1) := by
  obtain ⟨h1, h2, h3, _, h5⟩ := rdAcc_val 9 0 0 s h
  simp only [Nat.sub_zero] at h1 h2 h3
  have hv : v = valB (s.take (i + 1)) := by rw [h2]; simp
  have hw := numB_wf 9 (s.take (i + 1)) h1 (by omega)
  rw [← hv] at hw
  have hlast : (s.take (i + 1)).getLast? = some s[i] := by
    rw [List.getLast?_eq_getElem?, h3]; simp [hi]
  have hlt : s[i].toNat < 128 := by
    have : ∀ l : List UInt8, wfB l → ∀ c, l.getLast? = some c → c.toNat < 128 := by
      intro l
      induction l with
      | nil => intro h; exact h.elim
      | cons a l ih =>
        cases l with
        | nil => intro h c hc; simp at hc; subst hc; exact h
        | cons b l => intro h c hc; exact ih h.2 c (by simpa [List.getLast?_cons] using hc)
    exact this _ h1 _ hlast
  unfold numRd
  rw [h]
  simp only
  rw [hlast, h3] at hw
  unfold numB
  by_cases hz : s[i].toNat % 128 = 0 ∧ 0 < i
  · rw [if_pos hz, if_neg]
    intro hh
    rcases hw.1 hh with h | h
    · omega
    · exact h (by rw [show s[i] = 0 from UInt8.toNat_inj.1 (by show s[i].toNat = 0; omega)])
  · rw [if_neg hz, if_pos]
    refine hw.2 ?_
    by_cases h0 : i = 0
    · left; omega
    · right
      intro hh
      have : s[i] = 0 := by simpa using hh
      rw [this] at hz
      exact hz ⟨rfl, by omega⟩

theorem byt_toNat (n : Int) (h0 : 0 ≤ n) (h1 : n < 256) : ((byt n).toNat : Int) = n := by
  simp [byt]; omega
theorem fourRd_four (n : Int) (h0 : 0 ≤ n) (h1 : n < 4294967296) : fourRd (fourI n) = n := by
  have a := byt_toNat (n / 16777216) (by omega) (by omega)
  have b := byt_toNat (n / 65536 % 256) (by omega) (by omega)
  have c := byt_toNat (n / 256 % 256) (by omega) (by omega)
  have d := byt_toNat (n % 256) (by omega) (by omega)
  simp only [fourRd, fourI, List.getD_cons_zero, List.getD_cons_succ]
  rw [a, b, c, d]
  omega
theorem four_fourRd {s : List UInt8} (h : s.length = 4) : fourI (fourRd s) = s := by
  match s, h with
  | [a, b, c, d], _ =>
    have := a.toNat_lt; have := b.toNat_lt; have := c.toNat_lt; have := d.toNat_lt
    simp only [fourRd, fourI, List.getD_cons_zero, List.getD_cons_succ]
    rw [byt_of a _ (by omega), byt_of b _ (by omega), byt_of c _ (by omega), byt_of d _ (by omega)]
theorem fourRd_iff {s : List UInt8} (h : s.length = 4) (n : Int) (h0 : 0 ≤ n) (h1 : n < 4294967296) : fourRd s = n ↔ fourI n = s := by
  constructor
  · intro e; rw [← e]; exact four_fourRd h
  · intro e; rw [← e]; exact fourRd_four n h0 h1
theorem fourRd_bound {s : List UInt8} (h : s.length = 4) : 0 ≤ fourRd s ∧ fourRd s < 4294967296 := by
  match s, h with
  | [a, b, c, d], _ =>
    have := a.toNat_lt; have := b.toNat_lt; have := c.toNat_lt; have := d.toNat_lt
    simp only [fourRd, List.getD_cons_zero, List.getD_cons_succ]
    omega
end Go.Proofs.YtdjpkgaicmklmaaGreat

/- The program's firstNumber and fromFourBytes, walked. -/
namespace Go.Proofs.YtdjpkgaicmklmaaGreat
open Go.RowKit

set_option maxRecDepth 100000 in
set_option maxHeartbeats 4000000 in
theorem firstNumber_any (s : List UInt8) (w : World) (hs : s.length ≤ 9223372036854775807) :
    Calls Tryz.prog 107 #[.string (str s)] w fun e w' => e = .returned (rdV (numRd s)) ∧ w' = w := by
  have hz := str_size s
  have HZ : Hid ((str s).size = s.length) := hz
  clear hz
  have hs2 : (str s).size ≤ 9223372036854775807 := by rw [HZ.out]; exact hs
  go_enter Tryz.func107, Tryz.ntmps107
  go_wp2
  go_loopw [4, 5, 6] (fun u q _ wr => ∃ (i : Nat) (v : Int), i ≤ 9 ∧ i ≤ (str s).size ∧ q = .int .i64 i ∧ u = .int .i64 v ∧ 0 ≤ v ∧ v < 128 ^ i ∧ rdAcc (9 - i) i v (s.drop i) = rdAcc 9 0 0 s ∧ wr = w) (fun _ q _ _ => 9 - (intOf q).toNat)
  case atStart => exact ⟨0, 0, by omega, by omega, rfl, rfl, by omega, by omega, rfl, rfl⟩
  case round =>
    obtain ⟨i, v, hi9, hi, rfl, rfl, v0, v1, hr, hw⟩ := hrel
    obtain rfl := hw.symm
    have HR : Hid (rdAcc (9 - i) i v (s.drop i) = rdAcc 9 0 0 s) := hr
    clear hr
    by_cases hlt : i < (str s).size
    · by_cases hl9 : i < 9
      · have hlt2 : i < s.length := by rw [← HZ.out]; exact hlt
        have hp := pow128 i (by omega)
        have HV : Hid (v < 128 ^ i) := v1
        clear v1
        have hb := (s[i]).toNat_lt
        have e0 : ((str s)[i]'hlt).toNat = s[i].toNat := rfl
        have hb2 : ((str s)[i]'hlt).toNat < 256 := by rw [e0]; exact hb
        have e2 : wrap64 (((str s)[i]'hlt).toNat : Int) = (((str s)[i]'hlt).toNat : Int) := by unfold wrap64; omega
        have hm0 : ((s[i].toNat % 128 : Nat) : Int) = (s[i].toNat : Int) % 128 := by omega
        have ev : wrap64 (v + wrap64 ((((str s)[i]'hlt).toNat : Int) % 128 * 2 ^ (7 * i))) = v + ((s[i].toNat % 128 : Nat) : Int) * 128 ^ i := by
          have e1 : (2 : Int) ^ (7 * i) = 128 ^ i := by rw [Int.pow_mul]; rfl
          rw [e0, e1, ← hm0]
          have h1 : ((s[i].toNat % 128 : Nat) : Int) * 128 ^ i ≤ 127 * 128 ^ i := Int.mul_le_mul_of_nonneg_right (by omega) (by omega)
          have h0 : 0 ≤ ((s[i].toNat % 128 : Nat) : Int) * 128 ^ i := Int.mul_nonneg (by omega) (by omega)
          have h2 := HV.out
          generalize ((s[i].toNat % 128 : Nat) : Int) * 128 ^ i = m at *
          generalize (128 : Int) ^ i = q at *
          unfold wrap64
          omega
        have hv' : 0 ≤ v + ((s[i].toNat % 128 : Nat) : Int) * 128 ^ i ∧ v + ((s[i].toNat % 128 : Nat) : Int) * 128 ^ i < 128 ^ (i + 1) ∧ v + ((s[i].toNat % 128 : Nat) : Int) * 128 ^ i ≤ 9223372036854775807 := by
          have h1 : ((s[i].toNat % 128 : Nat) : Int) * 128 ^ i ≤ 127 * 128 ^ i := Int.mul_le_mul_of_nonneg_right (by omega) (by omega)
          have h0 : 0 ≤ ((s[i].toNat % 128 : Nat) : Int) * 128 ^ i := Int.mul_nonneg (by omega) (by omega)
          have h2 := HV.out
          rw [Int.pow_succ]
          generalize ((s[i].toNat % 128 : Nat) : Int) * 128 ^ i = m at *
          generalize (128 : Int) ^ i = q at *
          omega
        have hstep : rdAcc 9 0 0 s = if s[i].toNat < 128 then some (v + ((s[i].toNat % 128 : Nat) : Int) * 128 ^ i, i + 1) else rdAcc (9 - (i + 1)) (i + 1) (v + ((s[i].toNat % 128 : Nat) : Int) * 128 ^ i) (s.drop (i + 1)) := by
          rw [← HR.out, List.drop_eq_getElem_cons hlt2, show 9 - i = (9 - (i + 1)) + 1 by omega]
          rfl
        have HS : Hid (rdAcc 9 0 0 s = if s[i].toNat < 128 then some (v + ((s[i].toNat % 128 : Nat) : Int) * 128 ^ i, i + 1) else rdAcc (9 - (i + 1)) (i + 1) (v + ((s[i].toNat % 128 : Nat) : Int) * 128 ^ i) (s.drop (i + 1))) := hstep
        have HE2 : Hid (wrap64 (v + wrap64 ((((str s)[i]'hlt).toNat : Int) % 128 * 2 ^ (7 * i))) = v + ((s[i].toNat % 128 : Nat) : Int) * 128 ^ i) := ev
        clear hstep ev HR hm0 e0
        generalize hV : v + ((s[i].toNat % 128 : Nat) : Int) * 128 ^ i = V at *
        clear hV
        by_cases hc : ((str s)[i]'hlt).toNat < 128
        · have HA : Hid (rdAcc 9 0 0 s = some (V, i + 1)) := by show _ = _; rw [HS.out]; exact if_pos hc
          have HN := numRd_last HA.out hlt2
          have hc' : ¬ (128 ≤ ((str s)[i]'hlt).toNat) := by omega
          by_cases hd : ((str s)[i]'hlt).toNat % 128 = 0
          · have hd' : ((((str s)[i]'hlt).toNat : Int) % 128 == 0) = true := by simp; omega
            by_cases hi0 : 0 < i
            · have HN2 : Hid (numRd s = none) := by show _ = _; rw [HN, if_pos ⟨hd, hi0⟩]
              clear HN HA HS
              go_wp2_with fail
              go_ret2
              exact ⟨by rw [HN2.out]; rfl, by first | rfl | trivial⟩
            · have HN2 : Hid (numRd s = some (V, i + 1)) := by show _ = _; rw [HN, if_neg (fun h => hi0 h.2)]
              clear HN HA HS
              go_wp2_with fail
              go_ret2
              exact ⟨by rw [HN2.out, ← HE2.out]; rfl, by first | rfl | trivial⟩
          · have hd' : ((((str s)[i]'hlt).toNat : Int) % 128 == 0) = false := by rw [beq_eq_false_iff_ne]; omega
            have HN2 : Hid (numRd s = some (V, i + 1)) := by show _ = _; rw [HN, if_neg (fun h => hd h.1)]
            clear HN HA HS
            go_wp2_with fail
            go_ret2
            exact ⟨by rw [HN2.out, ← HE2.out]; rfl, by first | rfl | trivial⟩
        · have HA : Hid (rdAcc (9 - (i + 1)) (i + 1) V (s.drop (i + 1)) = rdAcc 9 0 0 s) := by show _ = _; rw [HS.out]; exact (if_neg hc).symm
          clear HS
          go_wp2_with fail
          rw [HE2.out]
          go_roundw
          case rel => exact ⟨i + 1, V, by omega, by omega, by go_num, rfl, hv'.1, hv'.2.1, HA.out, by first | rfl | trivial⟩
          case measure => simp [intOf]; omega
      · have HN : Hid (numRd s = none) := by
          have : 9 - i = 0 := by omega
          have h := HR.out
          rw [this] at h
          show _ = _; unfold numRd; rw [← h]; rfl
        go_wp2_with fail
        go_ret2
        exact ⟨by rw [HN.out]; rfl, by first | rfl | trivial⟩
    · have HN : Hid (numRd s = none) := by
        have h := HR.out
        rw [List.drop_of_length_le (by rw [← HZ.out]; omega)] at h
        have : rdAcc (9 - i) i v [] = none := by cases 9 - i <;> rfl
        show _ = _; unfold numRd; rw [← h, this]
      go_wp2_with fail
      go_ret2
      exact ⟨by rw [HN.out]; rfl, by first | rfl | trivial⟩
end Go.Proofs.YtdjpkgaicmklmaaGreat

