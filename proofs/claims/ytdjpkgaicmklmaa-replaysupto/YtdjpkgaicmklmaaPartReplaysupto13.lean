/- Texts of the proof, one behind the other; what each holds is said at its head. -/
import Derived.Test.YtdjpkgaicmklmaaPartReplaysupto12
import Derived.Test.YtdjpkgaicmklmaaPartReplaysupto6
import Derived.Test.YtdjpkgaicmklmaaPartReplaysupto7
/- Arrays as variables of the call's own; the program's Join: a number that is there twice, the parts laid in order: walked. -/
namespace Go.Proofs.Ytdjpkgaicmklmaa
open Go.RowKit

section
variable {P : Program} {w : World} {ops : Array Oper} {rest : List Oper} {o : Oper} {a : Act} {Q : Exit → Act → World → Prop}

/-- 'T{}', T an array. -/
theorem wpList_bzero (hgd : o.guard = none) (t e n : Nat) (ho : o.op = .build t #[]) (hu : P.underlying t = some (.array n e)) (cs : List Value) (he : (P.info? e).isSome) (hz : (P.info? t).map (·.zero) = some (some (.agg cs.toArray)))
    (h : wpList P ops Q rest (a.put o.dst (.agg cs.toArray)) w) : wpList P ops Q (o :: rest) a w := by
  obtain ⟨i, hi, hzz⟩ := Option.map_eq_some_iff.1 hz
  obtain ⟨j, hj⟩ := Option.isSome_iff_exists.1 he
  refine wpList_plain hgd fun K hK => ?_
  have hrun : (Instr.build t #[]).run P w = .ok (.agg cs.toArray) w := by
    simp [Instr.build, zeroValue, typeInfo, hi, hzz, run_underlying hu, sizeOf, hj, Instr.fill, Value.cells]
  unfold Oper.wp
  simp [execOp, ho, hrun, Result.andThen]
  exact hK _ _ h

/-- 'var x T', T an array. -/
theorem wpList_bvar (hgd : o.guard = none) (t : Nat) (ho : o.op = .alloc t) (cs : List Value) (hz : (P.info? t).map (·.zero) = some (some (.agg cs.toArray)))
    (h : ∀ g w', g = w.heap.size → w'.heap.size = g + 1 → Bx w' g t cs → Below w.heap.size w w' → wpList P ops Q rest (a.put o.dst (.pointer (some ⟨g, 0, none⟩))) w') : wpList P ops Q (o :: rest) a w := by
  obtain ⟨i, hi, hzz⟩ := Option.map_eq_some_iff.1 hz
  refine wpList_bnew hgd t cs (fun w => ?_) h
  simp [execOp, ho, Instr.alloc, zeroValue, typeInfo, hi, hzz, newVar, newRow, Value.cells, Result.andThen]
end

/-- An element of such a variable. -/
theorem arr_idx {P : Program} {t e n : Nat} (hu : P.underlying t = some (.array n e)) (hs : (P.info? e).map (·.size) = some 1) (K : IntKind) (g k : Nat) (hk : k < n) (w : World) : (Instr.indexAt t (.pointer (some ⟨g, 0, none⟩)) (.int K (k : Int))).run P w = .ok (.pointer (some ⟨g, k, none⟩)) w := by
  cases hq : P.info? e with
  | none => simp [hq] at hs
  | some i =>
    have hi : i.size = 1 := by simpa [hq] using hs
    simp [Instr.indexAt, asIntOf, run_underlying hu, Instr.sureAddr, sizeOf, typeInfo, hq, hi, addr_add, hk]

/-- Which numbers there are, as cells. -/
abbrev seenC (l : List (List UInt8)) : List Value := (List.range 256).map fun k => .bool (l.any fun v => numV v == k)
set_option maxRecDepth 100000 in
theorem seenC_nil : List.replicate 256 (Value.bool false) = seenC [] := by rfl
theorem seenC_at (l : List (List UInt8)) (k : Nat) (h : k < 256) : (seenC l)[k]? = some (.bool (l.any fun v => numV v == k)) := by
  rw [List.getElem?_map, List.getElem?_range h]; rfl
theorem seenC_snoc (l : List (List UInt8)) (s : List UInt8) : (seenC l).set (numV s) (.bool true) = seenC (l ++ [s]) := by
  apply List.ext_getElem?
  intro k
  rw [List.getElem?_set]
  by_cases hk : k < 256
  · rw [seenC_at _ k hk, seenC_at _ k hk]
    by_cases e : numV s = k
    · simp [e, hk]
    · simp [e]
  · rw [List.getElem?_eq_none (by simp; omega), List.getElem?_eq_none (by simp; omega)]
    have := numV_lt s
    rw [if_neg (by omega)]

set_option maxRecDepth 100000 in
set_option maxHeartbeats 4000000 in
theorem firstTwice_any (l : List (List UInt8)) (ad0 : Option Addr) (N cap0 : Nat) (w : World) (hL : Lies w ad0 N 4 (fun i => voC (l.getD i []))) (hN : N = l.length) (hb : N ≤ 1099511627776) :
    Calls Try.prog 99 #[.slice ad0 N cap0] w fun e w' => e = .returned (.int .i64 (firstEnd (bad3 l) l.length : Nat)) ∧ Below w.heap.size w w' := by
  have HN : Hid (N = l.length) := hN
  clear hN
  obtain ⟨Z, hZ⟩ : ∃ Z, Z = List.replicate 256 (Value.bool false) := ⟨_, rfl⟩
  have HZ : Hid (Z = seenC []) := by show _ = _; rw [hZ]; exact seenC_nil
  have HI : Hid ((Try.prog.info? 153).map (·.zero) = some (some (.agg Z.toArray))) := by show _ = _; rw [hZ]; kernel_rfl
  have HL1 : Hid (Z.length = 256) := by show _ = _; rw [hZ]; simp
  have HO1 : Hid (∀ x, x ∈ Z → x.oneCell' = true) := by intro x hx; rw [hZ] at hx; rw [(List.mem_replicate.1 hx).2]; rfl
  clear hZ
  go_enter Try.func99, Try.ntmps99
  go_wp2_with (first
    | (refine wpList_bzero (by rfl) 153 4 256 (by rfl) Try.underlying153 Z (by kernel_rfl) HI.out ?_)
    | (refine wpList_bvar (by rfl) 153 (by rfl) Z HI.out ?_; intro g w1 hg hz1 hx hb1; subst hg)
    | (refine wpList_bstore (by rfl) _ _ 153 (by rfl) w.heap.size 153 (by rfl) _ Z (by rfl) hx 256 HL1.out (by kernel_rfl) HL1.out HO1.out ?_; intro w2 hx2 hu2))
  rw [HZ.out] at hx2
  have hb2 := hu2.below hb1 (by omega)
  have HG : Hid (w.heap.size ≤ w.heap.size) := Nat.le_refl _
  clear hx hb1 hu2 hz1 HZ HI HL1 HO1
  go_loopw [4] (fun u wr => ∃ (i : Nat), i ≤ N ∧ u = .int .i64 i ∧ (∀ j, j < i → bad3 l j = false) ∧ Bx wr w.heap.size 153 (seenC (l.take i)) ∧ Below w.heap.size w wr) (fun u _ => N - (intOf u).toNat)
  case atStart => exact ⟨0, by omega, rfl, by intro j hj; omega, by simpa using hx2, hb2⟩
  case round =>
    obtain ⟨i, hi, rfl, hbad, hx, hbw⟩ := hrel
    have HBAD : Hid (∀ j, j < i → bad3 l j = false) := hbad
    clear hbad
    by_cases hlt : i < N
    · obtain ⟨b, o, hbl, hix, hc⟩ := (hL.below hbw).at cap0 (P := Try.prog) (t := 118) (by kernel_rfl) (by kernel_rfl) hlt
      have c0 : wr.cell? ⟨b, o, none⟩ = some (.int .u8 (numV (l.getD i []))) := hc 0 _ (by omega) rfl
      have hil : i < l.length := by rw [← HN.out]; exact hlt
      have HB3 : Hid (bad3 l i = (l.take i).any fun v => numV v == numV (l.getD i [])) := rfl
      have HT : Hid ((seenC (l.take i)).set (numV (l.getD i [])) (.bool true) = seenC (l.take (i + 1))) := by show _ = _; rw [take_snoc l i hil]; exact seenC_snoc _ _
      have hnl := numV_lt (l.getD i [])
      have hca := (hx.cell (numV (l.getD i []))).trans (seenC_at (l.take i) _ hnl)
      rw [← HB3.out] at hca
      clear hc
      generalize numV (l.getD i []) = nv at *
      have hia := fun w' => arr_idx (P := Try.prog) (t := 153) (e := 4) (n := 256) Try.underlying153 (by kernel_rfl) .u8 w.heap.size nv hnl w'
      cases hq : bad3 l i with
      | true =>
        rw [hq] at hca
        have HF : Hid (firstEnd (bad3 l) l.length = i) := firstEnd_at hil HBAD.out hq
        clear hq
        go_wp2_with fail
        go_ret
        exact ⟨by rw [HF.out]; rfl, hbw⟩
      | false =>
        rw [hq] at hca
        have HF : Hid (bad3 l i = false) := hq
        clear hq
        go_wp2_with (refine wpList_bput (by rfl) _ _ 4 (by rfl) w.heap.size 153 nv (by rfl) _ (.bool true) (by rfl) hx (by kernel_rfl) (by simp; omega) (by rfl) (by rfl) ?_; intro w5 hx5 hu5)
        go_roundw
        case rel => exact ⟨i + 1, by omega, by go_num, fun j hj => by rcases Nat.lt_or_ge j i with h | h; (exact HBAD.out j h); (rw [show j = i by omega]; exact HF.out), by rw [← HT.out]; exact hx5, hu5.below hbw HG.out⟩
        case measure => simp [intOf]; omega
    · have hiN : i = N := by omega
      subst hiN
      have HK : Hid (firstEnd (bad3 l) l.length = i) := by show _ = _; rw [← HN.out]; exact firstEnd_none HBAD.out
      go_wp2_with fail
      go_ret
      exact ⟨by rw [HK.out]; rfl, hbw⟩

/-- The part of the volume with this number. -/
def bodyAt (l : List (List UInt8)) (k : Nat) : List UInt8 := bodyV (l.getD (atV l k) [])
theorem bodyAt_none {l : List (List UInt8)} {k : Nat} (h : ∀ v, v ∈ l → numV v ≠ k) : bodyAt l k = [] := by
  unfold bodyAt atV
  rw [List.findIdx_eq_length_of_false (by intro x hx; simpa using h x hx)]
  simp [bodyV]
theorem bodyAt_snoc {l : List (List UInt8)} {s : List UInt8} (h : ∀ v, v ∈ l → numV v ≠ numV s) (k : Nat) : bodyAt (l ++ [s]) k = if k = numV s then bodyV s else bodyAt l k := by
  unfold bodyAt atV
  rw [List.findIdx_append]
  by_cases hf : l.findIdx (fun v => numV v == k) < l.length
  · rw [if_pos hf]
    have hm := List.findIdx_getElem (w := hf) (p := fun v => numV v == k)
    have hne : k ≠ numV s := by
      intro e
      have h2 := h _ (List.getElem_mem hf)
      simp only [beq_iff_eq] at hm
      exact h2 (by rw [hm]; exact e)
    rw [if_neg hne, List.getD_eq_getElem?_getD, List.getElem?_append_left hf, ← List.getD_eq_getElem?_getD]
  · rw [if_neg hf]
    have hl : l.findIdx (fun v => numV v == k) = l.length := by have := List.findIdx_le_length (p := fun v => numV v == k) (xs := l); omega
    by_cases e : k = numV s
    · rw [if_pos e]; simp [e, List.findIdx_cons]
    · rw [if_neg e, hl]
      have : (numV s == k) = false := by rw [beq_eq_false_iff_ne]; exact fun h => e h.symm
      have e1 : (l ++ [s]).getD (List.findIdx (fun v => numV v == k) [s] + l.length) [] = [] := by
        rw [List.getD_eq_getElem?_getD, List.getElem?_eq_none (by simp [List.findIdx_cons, this]; omega)]; rfl
      have e2 : l.getD l.length [] = [] := by simp
      rw [e1, e2]
theorem bodyAt_len (l : List (List UInt8)) (k n : Nat) (h : ∀ v, v ∈ l → v.length ≤ n) : (bodyAt l k).length ≤ n := by
  unfold bodyAt
  by_cases hf : atV l k < l.length
  · have := h _ (volAt_mem hf); unfold bodyV; rw [List.length_take]; omega
  · rw [List.getD_eq_getElem?_getD, List.getElem?_eq_none (by omega)]; simp [bodyV]
abbrev partC (l : List (List UInt8)) : List Value := (List.range 256).map fun k => .string (str (bodyAt l k))
set_option maxRecDepth 100000 in
theorem partC_nil : List.replicate 256 (Value.string ⟨#[]⟩) = partC [] := by
  have e : partC [] = (List.range 256).map fun _ => Value.string ⟨#[]⟩ := by
    apply List.map_congr_left; intro k _; rw [bodyAt_none (by intro v hv; cases hv)]; rfl
  rw [e]; rfl
theorem partC_at (l : List (List UInt8)) (k : Nat) (h : k < 256) : (partC l)[k]? = some (.string (str (bodyAt l k))) := by
  rw [List.getElem?_map, List.getElem?_range h]; rfl
theorem partC_snoc {l : List (List UInt8)} {s : List UInt8} (h : ∀ v, v ∈ l → numV v ≠ numV s) : (partC l).set (numV s) (.string (str (bodyV s))) = partC (l ++ [s]) := by
  apply List.ext_getElem?
  intro k
  rw [List.getElem?_set]
  by_cases hk : k < 256
  · rw [partC_at _ k hk, partC_at _ k hk, bodyAt_snoc h]
    by_cases e : numV s = k
    · rw [if_pos e, if_pos (by simp; omega), if_pos e.symm]
    · rw [if_neg e, if_neg (fun h => e h.symm)]
  · rw [List.getElem?_eq_none (by simp; omega), List.getElem?_eq_none (by simp; omega)]
    have := numV_lt s
    rw [if_neg (by omega)]
theorem allV_eq (l : List (List UInt8)) (k : Nat) : allV l k = (List.range k).flatMap (bodyAt l) := rfl
theorem allV_succ (l : List (List UInt8)) (k : Nat) : allV l (k + 1) = allV l k ++ bodyAt l k := by
  rw [allV_eq, allV_eq, List.range_succ, List.flatMap_append]; simp
theorem allV_len (l : List (List UInt8)) (n : Nat) (h : ∀ v, v ∈ l → v.length ≤ n) : ∀ k, (allV l k).length ≤ k * n
  | 0 => by simp [allV]
  | k + 1 => by
    rw [allV_succ, List.length_append, Nat.add_mul]
    have := allV_len l n h k
    have := bodyAt_len l k n h
    omega
theorem allV_more {l : List (List UInt8)} {n : Nat} (h : ∀ v, v ∈ l → numV v < n) : ∀ k, allV l (n + k) = allV l n
  | 0 => rfl
  | k + 1 => by
    rw [show n + (k + 1) = (n + k) + 1 by omega, allV_succ, allV_more h k, bodyAt_none (by intro v hv; have := h v hv; omega), List.append_nil]

set_option maxRecDepth 100000 in
set_option maxHeartbeats 4000000 in
theorem joined_any (l : List (List UInt8)) (ad0 : Option Addr) (N cap0 : Nat) (w : World) (hL : Lies w ad0 N 4 (fun i => voC (l.getD i []))) (hN : N = l.length) (hb : N ≤ 1099511627776) (hnd : ∀ i, i < l.length → bad3 l i = false) (hl : ∀ v, v ∈ l → v.length ≤ 34359738368) :
    Calls Try.prog 100 #[.slice ad0 N cap0] w fun e w' => e = .returned (.string (str (allV l 256))) ∧ Below w.heap.size w w' := by
  have HN : Hid (N = l.length) := hN
  have HND : Hid (∀ i, i < l.length → bad3 l i = false) := hnd
  have HLE : Hid (∀ v, v ∈ l → v.length ≤ 34359738368) := hl
  clear hN hnd hl
  obtain ⟨Z, hZ⟩ : ∃ Z, Z = List.replicate 256 (Value.string ⟨#[]⟩) := ⟨_, rfl⟩
  have HZ : Hid (Z = partC []) := by show _ = _; rw [hZ]; exact partC_nil
  have HI : Hid ((Try.prog.info? 154).map (·.zero) = some (some (.agg Z.toArray))) := by show _ = _; rw [hZ]; kernel_rfl
  have HL1 : Hid (Z.length = 256) := by show _ = _; rw [hZ]; simp
  have HO1 : Hid (∀ x, x ∈ Z → x.oneCell' = true) := by intro x hx; rw [hZ] at hx; rw [(List.mem_replicate.1 hx).2]; rfl
  clear hZ
  go_enter Try.func100, Try.ntmps100
  go_wp2_with (first
    | (refine wpList_bzero (by rfl) 154 9 256 (by rfl) Try.underlying154 Z (by kernel_rfl) HI.out ?_)
    | (refine wpList_bvar (by rfl) 154 (by rfl) Z HI.out ?_; intro g w1 hg hz1 hx hb1; subst hg)
    | (refine wpList_bstore (by rfl) _ _ 154 (by rfl) w.heap.size 154 (by rfl) _ Z (by rfl) hx 256 HL1.out (by kernel_rfl) HL1.out HO1.out ?_; intro w2 hx2 hu2))
  rw [HZ.out] at hx2
  have hb2 := hu2.below hb1 (by omega)
  have HG : Hid (w.heap.size ≤ w.heap.size) := Nat.le_refl _
  clear hx hb1 hu2 hz1 HZ HI HL1 HO1
  go_loopw [4] (fun u wr => ∃ (i : Nat), i ≤ N ∧ u = .int .i64 i ∧ Bx wr w.heap.size 154 (partC (l.take i)) ∧ Below w.heap.size w wr) (fun u _ => N - (intOf u).toNat)
  case atStart => exact ⟨0, by omega, rfl, by simpa using hx2, hb2⟩
  case round =>
    obtain ⟨i, hi, rfl, hx, hbw⟩ := hrel
    by_cases hlt : i < N
    · obtain ⟨b, o, hbl, hix, hc⟩ := (hL.below hbw).at cap0 (P := Try.prog) (t := 118) (by kernel_rfl) (by kernel_rfl) hlt
      have c0 : wr.cell? ⟨b, o, none⟩ = some (.int .u8 (numV (l.getD i []))) := hc 0 _ (by omega) rfl
      have c3 : wr.cell? ⟨b, o + 3, none⟩ = some (.string (str (bodyV (l.getD i [])))) := hc 3 _ (by omega) rfl
      have hil : i < l.length := by rw [← HN.out]; exact hlt
      have HT : Hid ((partC (l.take i)).set (numV (l.getD i [])) (.string (str (bodyV (l.getD i [])))) = partC (l.take (i + 1))) := by
        show _ = _
        rw [take_snoc l i hil]
        refine partC_snoc fun v hv e => ?_
        have := HND.out i hil
        simp only [bad3, List.any_eq_false, beq_iff_eq] at this
        exact this v hv e
      have hnl := numV_lt (l.getD i [])
      have hca := (hx.cell (numV (l.getD i []))).trans (partC_at (l.take i) _ hnl)
      have hfr := hx.frozen (numV (l.getD i []))
      clear hc
      generalize numV (l.getD i []) = nv at *
      generalize bodyV (l.getD i []) = bo at *
      have hia := fun w' => arr_idx (P := Try.prog) (t := 154) (e := 9) (n := 256) Try.underlying154 (by kernel_rfl) .u8 w.heap.size nv hnl w'
      go_wp2_with fail
      go_region_law (fail)
      all_goals
        go_wp2_with fail
        go_roundw
        case rel => exact ⟨i + 1, by omega, by go_num, by rw [← HT.out]; exact (hx.drewN 1).setCell _ _, ((Upd.refl w.heap.size wr).drew.setCell _ rfl _).below hbw HG.out⟩
        case measure => simp [intOf]; omega
    · have hiN : i = N := by omega
      subst hiN
      have HF : Hid (Bx wr w.heap.size 154 (partC l)) := by
        have : l.take i = l := by rw [HN.out]; exact List.take_length
        rw [this] at hx; exact hx
      clear hx
      generalize hWW : wr = W at *
      clear hWW
      go_wp2_with fail
      go_loopw [5, 6] (fun v u wr => ∃ (k : Nat) (ad : Option Addr) (n cap : Nat), k ≤ 256 ∧ u = .int .i64 k ∧ v = .slice ad n cap ∧ n = (allV l k).length ∧ n ≤ 8796093022208 ∧ Vec wr W.heap.size 5 1 ad n cap (u8s (allV l k)) ∧ Below W.heap.size W wr) (fun _ u _ => 256 - (intOf u).toNat)
      case atStart => exact ⟨0, _, 0, _, by omega, rfl, rfl, rfl, by omega, Vec.lit W W.heap.size 5 1 0 [] (Nat.le_refl _) (by omega) rfl, (Below.refl _ _).alloc (Nat.le_refl _) _⟩
      case round =>
        obtain ⟨k, ad, n, cap, hk, rfl, rfl, hn, hn2, hv, hbk⟩ := hrel
        have HNN : Hid (n = (allV l k).length) := hn
        clear hn
        by_cases hlt2 : k < 256
        · have hia := fun w' => arr_idx (P := Try.prog) (t := 154) (e := 9) (n := 256) Try.underlying154 (by kernel_rfl) .i64 w.heap.size k hlt2 w'
          have hca := ((HF.out.below hbk HF.out.lt).cell k).trans (partC_at l k hlt2)
          have hlk := bodyAt_len l k _ HLE.out
          have HA : Hid (allV l (k + 1) = allV l k ++ bodyAt l k) := allV_succ l k
          have HA2 : Hid ((allV l (k + 1)).length ≤ 8796093022208) := by
            have h1 := allV_len l _ HLE.out (k + 1)
            have h2 : (k + 1) * 34359738368 ≤ 256 * 34359738368 := Nat.mul_le_mul_right _ (by omega)
            show _ ≤ _; omega
          have hbz := hbk.size
          go_wp2_with (at_builtin; refine wpList_pushStr (by rfl) _ _ 126 9 (by rfl) W.heap.size 5 Try.underlying126 Try.underlying9 (by kernel_rfl) ad n cap (allV l k) (bodyAt l k) (by rfl) hv (by rfl) (by omega) hbz _ rfl ?_; intro ad' cap' w' hv' hb' hs')
          go_roundw
          case rel => exact ⟨k + 1, ad', n + (bodyAt l k).length, cap', by omega, by go_num, rfl, by rw [HA.out, List.length_append, HNN.out], by have := HA2.out; rw [HA.out, List.length_append, ← HNN.out] at this; exact this, by rw [HA.out]; exact hv', hbk.trans hb'⟩
          case measure => simp [intOf]; omega
        · have hk256 : k = 256 := by omega
          subst hk256
          go_wp2_with (refine wpList_toStr (by rfl) 126 9 5 _ (by rfl) Try.underlying126 Try.underlying5 Try.underlying9 W.heap.size n cap ad (by rfl) (allV l 256) hv ?_)
          go_ret
          exact ⟨rfl, hbw.trans (hbk.mono hbw.size)⟩
end Go.Proofs.Ytdjpkgaicmklmaa

/- The program's Join, walked. -/
namespace Go.Proofs.Ytdjpkgaicmklmaa
open Go.RowKit

/-- What Join answers, as values. -/
abbrev jnV (j : Jn) : Value := .tuple #[.string (str j.b), .int .i64 j.err, .int .i64 (j.at_ : Int)]
theorem joinRd_bad1 {l : List (List UInt8)} {i : Nat} (h : firstOf (bad1 l) l.length = some i) : joinRd l = ⟨[], 13, i⟩ := by unfold joinRd; rw [h]
theorem joinRd_bad2 {l : List (List UInt8)} {i : Nat} (h1 : firstOf (bad1 l) l.length = none) (h : firstOf (bad2 l) l.length = some i) : joinRd l = ⟨[], 14, i⟩ := by unfold joinRd; rw [h1, h]
theorem joinRd_bad3 {l : List (List UInt8)} {i : Nat} (h1 : firstOf (bad1 l) l.length = none) (h2 : firstOf (bad2 l) l.length = none) (h : firstOf (bad3 l) l.length = some i) : joinRd l = ⟨[], 15, i⟩ := by unfold joinRd; rw [h1, h2, h]
theorem joinRd_miss {l : List (List UInt8)} (h1 : firstOf (bad1 l) l.length = none) (h2 : firstOf (bad2 l) l.length = none) (h3 : firstOf (bad3 l) l.length = none) (h : l.length = 0 ∨ l.length ≠ cntV (l.getD 0 [])) : joinRd l = ⟨[], 16, 0⟩ := by
  unfold joinRd; rw [h1, h2, h3]; simp only; rw [if_pos h]
theorem joinRd_sum {l : List (List UInt8)} (h1 : firstOf (bad1 l) l.length = none) (h2 : firstOf (bad2 l) l.length = none) (h3 : firstOf (bad3 l) l.length = none) (h : ¬ (l.length = 0 ∨ l.length ≠ cntV (l.getD 0 [])))
    (hs : fourI (crc pSum (allV l l.length)) ≠ sumV (l.getD 0 [])) : joinRd l = ⟨[], 8, 0⟩ := by
  unfold joinRd; rw [h1, h2, h3]; simp only; rw [if_neg h, if_pos hs]
theorem joinRd_ok {l : List (List UInt8)} (h1 : firstOf (bad1 l) l.length = none) (h2 : firstOf (bad2 l) l.length = none) (h3 : firstOf (bad3 l) l.length = none) (h : ¬ (l.length = 0 ∨ l.length ≠ cntV (l.getD 0 [])))
    (hs : fourI (crc pSum (allV l l.length)) = sumV (l.getD 0 [])) : joinRd l = ⟨allV l l.length, 0, 0⟩ := by
  unfold joinRd; rw [h1, h2, h3]; simp only; rw [if_neg h, if_neg (by simp [hs])]
theorem firstEnd_lt {f : Nat → Bool} {n i : Nat} (h : firstOf f n = some i) : firstEnd f n = i ∧ i < n := ⟨by unfold firstEnd; rw [h]; rfl, (firstOf_some.mp h).2.1⟩
theorem firstEnd_eq {f : Nat → Bool} {n : Nat} (h : firstOf f n = none) : firstEnd f n = n := by unfold firstEnd; rw [h]; rfl
theorem ok_of_none {l : List (List UInt8)} (h : firstOf (bad1 l) l.length = none) (i : Nat) (hi : i < l.length) : volOk (l.getD i []) = true := by
  have := firstOf_none.mp h i hi
  simpa [bad1] using this
theorem cnt_all {l : List (List UInt8)} (h1 : firstOf (bad1 l) l.length = none) (h2 : firstOf (bad2 l) l.length = none) (hc : l.length = cntV (l.getD 0 [])) : ∀ v, v ∈ l → numV v < l.length := by
  intro v hv
  obtain ⟨i, hi, rfl⟩ := List.mem_iff_getElem.mp hv
  have a := ok_of_none h1 i hi
  have b := firstOf_none.mp h2 i hi
  simp only [bad2, bne_eq_false_iff_eq] at b
  have hz : ∀ v : List UInt8, cntV v = ((idV v).getD 0 0).toNat := by intro v; unfold cntV idV; simp [List.getElem?_drop]
  have c : cntV (l.getD i []) = cntV (l.getD 0 []) := by rw [hz, hz, b]
  have e : l.getD i [] = l[i] := by rw [List.getD_eq_getElem?_getD, List.getElem?_eq_getElem hi]; rfl
  rw [e] at a c
  simp only [volOk, Bool.and_eq_true, decide_eq_true_eq] at a
  omega

theorem below_drew1 {w w' : World} (hb : Below w.drew.heap.size w.drew w') : Below w.heap.size w w' := (Below.drew (Below.refl w.heap.size w)).trans hb

set_option maxRecDepth 100000 in
set_option maxHeartbeats 4000000 in
theorem vjoin_any (l : List (List UInt8)) (ad0 : Option Addr) (N cap0 : Nat) (w : World) (hL : Lies w ad0 N 1 (fun i => [.string (str (l.getD i []))])) (hN : N = l.length) (hl : ∀ v, v ∈ l → v.length ≤ 34359738368) (hb : N ≤ 1099511627776) :
    Calls Try.prog 56 #[.slice ad0 N cap0] w fun e w' => e = .returned (jnV (joinRd l)) ∧ Below w.heap.size w w' := by
  have HLE : Hid (∀ v, v ∈ l → v.length ≤ 34359738368) := hl
  have HN : Hid (N = l.length) := hN
  have HL : Hid (Lies w ad0 N 1 (fun i => [.string (str (l.getD i []))])) := hL
  clear hl hN hL
  go_enter Try.func56, Try.ntmps56
  go_wp2_with fail
  refine (volumesOf_any l ad0 N cap0 _ HL.out HN.out (fun v hv => Nat.le_trans (HLE.out v hv) (by omega)) hb).mono ?_
  rintro e w1 ⟨ad, cap, k, rfl, hk, hv1, hb1⟩
  have HV1 : Hid (Vec w1 w.heap.size 122 4 ad k cap (vcells (l.take k))) := hv1
  have HB1 : Hid (Below w.heap.size w w1) := hb1
  clear hv1 hb1
  cases h1 : firstOf (bad1 l) l.length with
  | some i =>
    have hki : k = i := by rw [hk]; unfold voN; rw [h1]; rfl
    have hlt : i < N := by rw [HN.out]; exact (firstOf_some.mp h1).2.1
    subst hki
    have HR : Hid (joinRd l = ⟨[], 13, k⟩) := joinRd_bad1 h1
    clear h1 hk
    go_wp2_with fail
    go_ret3
    exact ⟨by rw [HR.out]; rfl, HB1.out⟩
  | none =>
    have hkN : k = N := by rw [hk, HN.out]; unfold voN; rw [h1]; rfl
    subst hkN
    have HV2 : Hid (Lies w1 ad k 4 (fun i => voC (l.getD i []))) := by
      have := HV1.out
      rw [show l.take k = l by rw [HN.out]; exact List.take_length] at this
      exact vcells_lies this HN.out
    have H1 : Hid (firstOf (bad1 l) l.length = none) := h1
    clear h1 hk HV1
    go_wp2_with fail
    refine (firstMixed_any l ad k cap _ HV2.out HN.out (ok_of_none H1.out) hb).mono ?_
    rintro e w2 ⟨rfl, hb2⟩
    have HB2 : Hid (Below w1.heap.size w1 w2) := hb2
    clear hb2
    cases h2 : firstOf (bad2 l) l.length with
    | some i =>
      obtain ⟨e2, hlt⟩ := firstEnd_lt h2
      have HR : Hid (joinRd l = ⟨[], 14, i⟩) := joinRd_bad2 H1.out h2
      rw [← HN.out] at hlt
      rw [e2]
      clear h2 e2
      go_wp2_with fail
      go_ret3
      exact ⟨by rw [HR.out]; rfl, HB1.out.trans (HB2.out.mono HB1.out.size)⟩
    | none =>
      have e2 := firstEnd_eq h2
      rw [← HN.out] at e2
      have H2 : Hid (firstOf (bad2 l) l.length = none) := h2
      rw [← HN.out, e2]
      clear h2 e2
      go_wp2_with fail
      refine (firstTwice_any l ad k cap _ (HV2.out.below HB2.out) HN.out hb).mono ?_
      rintro e w3 ⟨rfl, hb3⟩
      have HB3 : Hid (Below w1.heap.size w1 w3) := HB2.out.trans (hb3.mono HB2.out.size)
      clear hb3
      cases h3 : firstOf (bad3 l) l.length with
      | some i =>
        obtain ⟨e3, hlt⟩ := firstEnd_lt h3
        have HR : Hid (joinRd l = ⟨[], 15, i⟩) := joinRd_bad3 H1.out H2.out h3
        rw [← HN.out] at hlt
        rw [e3]
        clear h3 e3
        go_wp2_with fail
        go_ret3
        exact ⟨by rw [HR.out]; rfl, HB1.out.trans (HB3.out.mono HB1.out.size)⟩
      | none =>
        have e3 := firstEnd_eq h3
        rw [← HN.out] at e3
        have H3 : Hid (firstOf (bad3 l) l.length = none) := h3
        rw [← HN.out, e3]
        clear h3 e3
        by_cases h0 : k = 0
        · have HR : Hid (joinRd l = ⟨[], 16, 0⟩) := joinRd_miss H1.out H2.out H3.out (Or.inl (by rw [← HN.out]; exact h0))
          subst h0
          go_wp2_with fail
          go_ret3
          exact ⟨by rw [HR.out]; rfl, HB1.out.trans (HB3.out.mono HB1.out.size)⟩
        · have hk0 : 0 < k := by omega
          obtain ⟨b', o', hbl', hix', hd⟩ := (HV2.out.below HB3.out).at cap (P := Try.prog) (t := 118) (by kernel_rfl) (by kernel_rfl) (k := 0) hk0
          have d1 : w3.cell? ⟨b', o' + 1, none⟩ = some (.int .u8 (cntV (l.getD 0 []))) := hd 1 _ (by omega) rfl
          have d2 : w3.cell? ⟨b', o' + 2, none⟩ = some (.string (str (sumV (l.getD 0 [])))) := hd 2 _ (by omega) rfl
          have hix0 : ∀ w', (Instr.indexAt 118 (.slice ad k cap) (.int .i64 0)).run Try.prog w' = .ok (.pointer (some ⟨b', o', none⟩)) w' := hix'
          have hcl := cntV_lt (l.getD 0 [])
          obtain ⟨c, hc⟩ : ∃ c, c = cntV (l.getD 0 []) := ⟨_, rfl⟩
          have HC : Hid (cntV (l.getD 0 []) = c) := hc.symm
          obtain ⟨s0, hs0⟩ : ∃ c, c = sumV (l.getD 0 []) := ⟨_, rfl⟩
          have HS0 : Hid (sumV (l.getD 0 []) = s0) := hs0.symm
          rw [← hc] at d1 hcl
          rw [← hs0] at d2
          clear hd hix' hc hs0
          have wc : wrap64 (c : Int) = (c : Int) := by unfold wrap64; omega
          have q0 : ((k : Int) == 0) = false := by rw [beq_eq_false_iff_ne]; omega
          by_cases hcc : k = c
          · have q1 : ((k : Int) != (c : Int)) = false := by rw [hcc]; simp
            have HOK : Hid (¬ (l.length = 0 ∨ l.length ≠ cntV (l.getD 0 []))) := by show ¬ _; rw [← HN.out, HC.out]; omega
            have HA : Hid (allV l 256 = allV l l.length) := by
              have := allV_more (cnt_all H1.out H2.out (by rw [← HN.out, HC.out]; exact hcc)) (256 - l.length)
              rw [show l.length + (256 - l.length) = 256 by rw [← HN.out]; omega] at this
              exact this
            clear hcc
            go_wp2_with fail
            refine (joined_any l ad k cap _ (HV2.out.below HB3.out) HN.out hb (firstOf_none.mp H3.out) HLE.out).mono ?_
            rintro e w4 ⟨rfl, hb4⟩
            rw [HA.out]
            have hal : (allV l l.length).length ≤ 8796093022208 := by
              have h1 := allV_len l _ HLE.out 256
              rw [HA.out] at h1; omega
            replace d1 := ((hb4.cell (p := ⟨b', o' + 1, none⟩) hbl')).trans d1
            replace d2 := ((hb4.cell (p := ⟨b', o' + 2, none⟩) hbl')).trans d2
            have HB4 : Hid (Below w1.heap.size w1 w4) := HB3.out.trans (hb4.mono HB3.out.size)
            have HBL : Hid (b' < w4.heap.size) := Nat.lt_of_lt_of_le hbl' hb4.size
            have HRS := joinRd_sum H1.out H2.out H3.out HOK.out
            have HRO := joinRd_ok H1.out H2.out H3.out HOK.out
            rw [HS0.out] at HRS HRO
            clear hb4 HA HOK wc
            generalize allV l l.length = A at *
            go_wp2_with fail
            refine (sum_any A _ (by omega)).mono ?_
            rintro e w5 ⟨rfl, hw5⟩
            subst hw5
            obtain ⟨c1, c2⟩ := crc_le pSum (by decide) A
            by_cases hq : fourI (crc pSum A) = s0
            · have hqb : ((str s0).toList == (str (fourI (crc pSum A))).toList) = true := by rw [str_beq, hq]; simp
              have HR : Hid (joinRd l = ⟨A, 0, 0⟩) := HRO hq
              clear HRS HRO hq
              go_wp2_with fail
              go_region_law (go_simp; go_at_call 84; refine (fourBytes_any _ _ c1 c2).mono ?_; rintro e w' ⟨rfl, hb'⟩; dsimp only; have d3 : w'.cell? ⟨b', o' + 2, none⟩ = some (.string (str s0)) := (hb'.cell (p := ⟨b', o' + 2, none⟩) HBL.out).trans d2)
              all_goals
                go_wp2_with fail
                go_ret3
                exact ⟨by rw [HR.out]; rfl, HB1.out.trans ((HB4.out.trans ((below_drew1 hb').mono HB4.out.size)).mono HB1.out.size)⟩
            · have hqb : ((str s0).toList == (str (fourI (crc pSum A))).toList) = false := by rw [str_beq, beq_eq_false_iff_ne]; exact fun e => hq e.symm
              have HR : Hid (joinRd l = ⟨[], 8, 0⟩) := HRS hq
              clear HRS HRO hq
              go_wp2_with fail
              go_region_law (go_simp; go_at_call 84; refine (fourBytes_any _ _ c1 c2).mono ?_; rintro e w' ⟨rfl, hb'⟩; dsimp only; have d3 : w'.cell? ⟨b', o' + 2, none⟩ = some (.string (str s0)) := (hb'.cell (p := ⟨b', o' + 2, none⟩) HBL.out).trans d2)
              all_goals
                go_wp2_with fail
                go_ret3
                exact ⟨by rw [HR.out]; rfl, HB1.out.trans ((HB4.out.trans ((below_drew1 hb').mono HB4.out.size)).mono HB1.out.size)⟩
          · have q1 : ((k : Int) != (c : Int)) = true := by rw [bne_iff_ne]; omega
            have HR : Hid (joinRd l = ⟨[], 16, 0⟩) := joinRd_miss H1.out H2.out H3.out (Or.inr (by rw [← HN.out, HC.out]; exact hcc))
            go_wp2_with fail
            go_ret3
            exact ⟨by rw [HR.out]; rfl, HB1.out.trans (HB3.out.mono HB1.out.size)⟩

end Go.Proofs.Ytdjpkgaicmklmaa

/- parcel.Join of the program, walked. -/
namespace Go.Proofs.Ytdjpkgaicmklmaa
open Go.RowKit

set_option maxRecDepth 100000 in
set_option maxHeartbeats 4000000 in
theorem pjoin_any (l : List (List UInt8)) (ad0 : Option Addr) (N cap0 : Nat) (w : World) (hL : Lies w ad0 N 1 (fun i => [.string (str (l.getD i []))])) (hN : N = l.length) (hl : ∀ v, v ∈ l → v.length ≤ 34359738368) (hb : N ≤ 1099511627776) :
    Calls Try.prog 25 #[.slice ad0 N cap0] w fun e w' => e = .returned (jnV (joinRd l)) ∧ Below w.heap.size w w' := by
  have H := vjoin_any l ad0 N cap0 w hL hN hl hb
  clear hL hN hl hb
  go_enter Try.func25, Try.ntmps25
  go_wp2_with fail
  refine H.mono ?_
  rintro e w' ⟨rfl, h⟩
  clear H
  obtain ⟨jb, hjb⟩ : ∃ x, x = (joinRd l).b := ⟨_, rfl⟩
  obtain ⟨je, hje⟩ : ∃ x, x = (joinRd l).err := ⟨_, rfl⟩
  obtain ⟨ja, hja⟩ : ∃ x, x = (joinRd l).at_ := ⟨_, rfl⟩
  have HJ : Hid (jnV (joinRd l) = .tuple #[.string (str jb), .int .i64 je, .int .i64 (ja : Int)]) := by show _ = _; rw [hjb, hje, hja]
  clear hjb hje hja
  rw [HJ.out]
  go_wp2_with fail
  go_ret3
  exact ⟨by rw [HJ.out]; rfl, h⟩
end Go.Proofs.Ytdjpkgaicmklmaa

/- The reference's Join, walked. -/
namespace Go.Proofs.Ytdjpkgaicmklmaa
open Go.RowKit
attribute [local go_sem] str_append

theorem atV_le (l : List (List UInt8)) (n : Nat) : atV l n ≤ l.length := List.findIdx_le_length
theorem atV_is {l : List (List UInt8)} {n i : Nat} (hi : i < l.length) (h : numV (l.getD i []) = n) (hb : ∀ j, j < i → numV (l.getD j []) ≠ n) : atV l n = i := by
  have e : l.getD i [] = l[i] := by rw [List.getD_eq_getElem?_getD, List.getElem?_eq_getElem hi]; rfl
  unfold atV
  rw [List.findIdx_eq hi]
  refine ⟨by rw [e] at h; simp [h], fun j hj => ?_⟩
  have := hb j hj
  rw [List.getD_eq_getElem?_getD, List.getElem?_eq_getElem (by omega)] at this
  simpa using this
theorem atV_none {l : List (List UInt8)} {n : Nat} (hb : ∀ j, j < l.length → numV (l.getD j []) ≠ n) : atV l n = l.length := by
  unfold atV
  refine List.findIdx_eq_length_of_false fun x hx => ?_
  obtain ⟨j, hj, rfl⟩ := List.mem_iff_getElem.mp hx
  have := hb j hj
  rw [List.getD_eq_getElem?_getD, List.getElem?_eq_getElem hj] at this
  simpa using this
def atI (l : List (List UInt8)) (n : Nat) : Int := if atV l n < l.length then (atV l n : Int) else -1

set_option maxRecDepth 100000 in
set_option maxHeartbeats 4000000 in
theorem rat_any (l : List (List UInt8)) (n : Nat) (ad0 : Option Addr) (N cap0 : Nat) (w : World) (hL : Lies w ad0 N 1 (fun i => [.string (str (l.getD i []))])) (hN : N = l.length) (hok : ∀ i, i < l.length → 14 ≤ (l.getD i []).length) (hb : N ≤ 1099511627776) :
    Calls Try.prog 58 #[.slice ad0 N cap0, .int .i64 (n : Int)] w fun e w' => e = .returned (.int .i64 (atI l n)) ∧ Below w.heap.size w w' := by
  have HN : Hid (N = l.length) := hN
  have HOK : Hid (∀ i, i < l.length → 14 ≤ (l.getD i []).length) := hok
  clear hN hok
  go_enter Try.func58, Try.ntmps58
  go_wp2_with fail
  go_loopw [5] (fun u wr => ∃ (i : Nat), i ≤ N ∧ u = .int .i64 i ∧ (∀ j, j < i → numV (l.getD j []) ≠ n) ∧ Below w.heap.size w wr) (fun u _ => N - (intOf u).toNat)
  case atStart => exact ⟨0, by omega, rfl, by intro j hj; omega, Below.refl _ _⟩
  case round =>
    obtain ⟨i, hi, rfl, hbad, hbw⟩ := hrel
    have HBAD : Hid (∀ j, j < i → numV (l.getD j []) ≠ n) := hbad
    clear hbad
    by_cases hlt : i < N
    · obtain ⟨b, o, hbl, hix, hc⟩ := (hL.below hbw).at cap0 (P := Try.prog) (t := 46) (by kernel_rfl) (by kernel_rfl) hlt
      have c0 : wr.cell? ⟨b, o, none⟩ = some (.string (str (l.getD i []))) := hc 0 _ (by omega) rfl
      have hil : i < l.length := by rw [← HN.out]; exact hlt
      have hsl := HOK.out i hil
      have HA1 : Hid (∀ m, numV (l.getD i []) = m → atV l m = i ∨ ∃ j, j < i ∧ numV (l.getD j []) = m) := by
        intro m hm
        by_cases h : ∃ j, j < i ∧ numV (l.getD j []) = m
        · exact Or.inr h
        · exact Or.inl (atV_is hil hm (fun j hj e => h ⟨j, hj, e⟩))
      have HNE : Hid (∀ j, j < i + 1 → j = i → numV (l.getD j []) = numV (l.getD i [])) := by intro j _ e; rw [e]
      have HIL : Hid (i < l.length) := hil
      clear hc hil
      generalize l.getD i [] = s at *
      have l4 : 4 < (str s).size := by rw [str_size]; omega
      have e4 := at_num l4
      have hnl := numV_lt s
      have hwr : wrap64 (((str s)[4]'l4).toNat : Int) = (numV s : Int) := by rw [e4]; unfold wrap64; omega
      have hwr2 : wrap64 (numV s : Int) = (numV s : Int) := by unfold wrap64; omega
      by_cases hq : numV s = n
      · have hqb : ((numV s : Int) == (n : Int)) = true := by rw [hq]; simp
        have HA : Hid (atV l n = i) := by
          rcases HA1.out n hq with h | ⟨j, hj, e⟩
          · exact h
          · exact absurd e (HBAD.out j hj)
        clear hq
        go_wp2_with fail
        go_ret
        exact ⟨by unfold atI; rw [HA.out, if_pos HIL.out]; rfl, hbw⟩
      · have hqb : ((numV s : Int) == (n : Int)) = false := by rw [beq_eq_false_iff_ne]; omega
        have HQ : Hid (∀ j, j < i + 1 → numV (l.getD j []) ≠ n) := by
          intro j hj
          rcases Nat.lt_or_ge j i with h | h
          · exact HBAD.out j h
          · rw [HNE.out j hj (by omega)]; exact hq
        clear hq
        go_wp2_with fail
        go_roundw
        case rel => exact ⟨i + 1, by omega, by go_num, HQ.out, hbw⟩
        case measure => simp [intOf]; omega
    · have hiN : i = N := by omega
      subst hiN
      have HA : Hid (atV l n = l.length) := atV_none (by rw [← HN.out]; exact HBAD.out)
      go_wp2_with fail
      go_ret
      exact ⟨by unfold atI; rw [HA.out, if_neg (by omega)]; rfl, hbw⟩

theorem bad3_at {l : List (List UInt8)} {i : Nat} (hi : i < l.length) : atV l (numV (l.getD i [])) < l.length ∧ (bad3 l i = true ↔ atV l (numV (l.getD i [])) < i) := by
  have e : l.getD i [] = l[i] := by rw [List.getD_eq_getElem?_getD, List.getElem?_eq_getElem hi]; rfl
  have h1 : atV l (numV (l.getD i [])) < l.length := by
    unfold atV; rw [List.findIdx_lt_length]; exact ⟨l[i], List.getElem_mem hi, by rw [e]; simp⟩
  refine ⟨h1, ?_⟩
  simp only [bad3, List.any_eq_true, beq_iff_eq]
  constructor
  · rintro ⟨v, hv, hn⟩
    rw [List.mem_take_iff_getElem] at hv
    obtain ⟨j, hj, rfl⟩ := hv
    refine Nat.lt_of_le_of_lt ?_ (show j < i by omega)
    refine Nat.le_of_not_lt fun hlt => ?_
    have := List.not_of_lt_findIdx (p := fun v => numV v == numV (l.getD i [])) (xs := l) (i := j) hlt
    simp [hn] at this
  · intro h
    refine ⟨l[atV l (numV (l.getD i []))], ?_, ?_⟩
    · rw [List.mem_take_iff_getElem]; exact ⟨atV l (numV (l.getD i [])), by omega, rfl⟩
    · have := List.findIdx_getElem (w := h1) (p := fun v => numV v == numV (l.getD i []))
      exact of_decide_eq_true (p := numV (l[l.findIdx (fun v => numV v == numV (l.getD i []))]'h1) = numV (l.getD i [])) (by simpa using this)

set_option maxRecDepth 100000 in
set_option maxHeartbeats 4000000 in
theorem rjoin_any (l : List (List UInt8)) (ad0 : Option Addr) (N cap0 : Nat) (w : World) (hL : Lies w ad0 N 1 (fun i => [.string (str (l.getD i []))])) (hN : N = l.length) (hl : ∀ v, v ∈ l → v.length ≤ 34359738368) (hb : N ≤ 1099511627776) :
    Calls Try.prog 26 #[.slice ad0 N cap0] w fun e w' => e = .returned (jnV (joinRd l)) ∧ Below w.heap.size w w' := by
  have HLE : Hid (∀ v, v ∈ l → v.length ≤ 34359738368) := hl
  have HN : Hid (N = l.length) := hN
  clear hl hN
  go_enter Try.func26, Try.ntmps26
  go_wp2_with fail
  go_loopw [5, 6] (fun u _ wr => ∃ (i : Nat), i ≤ N ∧ u = .int .i64 i ∧ (∀ j, j < i → bad1 l j = false) ∧ Below w.heap.size w wr) (fun u _ _ => N - (intOf u).toNat)
  case atStart => exact ⟨0, by omega, rfl, by intro j hj; omega, Below.refl _ _⟩
  case round =>
    obtain ⟨i, hi, rfl, hbad, hbw⟩ := hrel
    have HBAD : Hid (∀ j, j < i → bad1 l j = false) := hbad
    clear hbad
    by_cases hlt : i < N
    · obtain ⟨b, o, hbl, hix, hc⟩ := (hL.below hbw).at cap0 (P := Try.prog) (t := 46) (by kernel_rfl) (by kernel_rfl) hlt
      have c0 : wr.cell? ⟨b, o, none⟩ = some (.string (str (l.getD i []))) := hc 0 _ (by omega) rfl
      have hil : i < l.length := by rw [← HN.out]; exact hlt
      have hsl : (l.getD i []).length ≤ 1099511627776 := Nat.le_trans (HLE.out _ (volAt_mem hil)) (by omega)
      have HB1 : Hid (bad1 l i = !volOk (l.getD i [])) := rfl
      clear hc
      generalize l.getD i [] = s at *
      go_wp2_with fail
      refine (rvolume_any s _ hsl).mono ?_
      rintro e w1 ⟨rfl, hb1⟩
      have hbw1 := hbw.trans (hb1.mono hbw.size)
      clear hbw hb1 c0
      cases hok : volOk s with
      | false =>
        have HR : Hid (joinRd l = ⟨[], 13, i⟩) := joinRd_bad1 (firstOf_some.mpr ⟨by rw [HB1.out, hok]; rfl, hil, HBAD.out⟩)
        clear hok
        go_wp2_with fail
        go_ret3
        exact ⟨by rw [HR.out]; rfl, hbw1⟩
      | true =>
        have HB2 : Hid (bad1 l i = false) := by show _ = _; rw [HB1.out, hok]; rfl
        clear hok
        go_wp2_with fail
        go_roundw
        case rel => exact ⟨i + 1, by omega, by go_num, fun j hj => by rcases Nat.lt_or_ge j i with h | h; (exact HBAD.out j h); (rw [show j = i by omega]; exact HB2.out), hbw1⟩
        case measure => simp [intOf]; omega
    · obtain rfl : N = i := by omega
      have H1 : Hid (firstOf (bad1 l) l.length = none) := firstOf_none.mpr (by rw [← HN.out]; exact HBAD.out)
      have HBW : Hid (Below w.heap.size w wr) := hbw
      have HOK : Hid (∀ i, i < l.length → 14 ≤ (l.getD i []).length) := fun i hi => volOk_len (ok_of_none H1.out i hi)
      clear HBAD hbw hi hlt
      generalize hWW : wr = W at *
      clear hWW
      go_wp2_with fail
      go_loopw [7] (fun u wr => ∃ (i : Nat), i ≤ N ∧ u = .int .i64 i ∧ (∀ j, j < i → bad2 l j = false) ∧ Below w.heap.size w wr) (fun u _ => N - (intOf u).toNat)
      case atStart => exact ⟨0, by omega, rfl, by intro j hj; omega, HBW.out⟩
      case round =>
        obtain ⟨i, hi, rfl, hbad, hbw⟩ := hrel
        have HBAD : Hid (∀ j, j < i → bad2 l j = false) := hbad
        clear hbad
        by_cases hlt : i < N
        · obtain ⟨b, o, hbl, hix, hc⟩ := (hL.below hbw).at cap0 (P := Try.prog) (t := 46) (by kernel_rfl) (by kernel_rfl) hlt
          obtain ⟨b', o', hbl', hix', hd⟩ := (hL.below hbw).at cap0 (P := Try.prog) (t := 46) (by kernel_rfl) (by kernel_rfl) (k := 0) (by omega)
          have c0 : wr.cell? ⟨b, o, none⟩ = some (.string (str (l.getD i []))) := hc 0 _ (by omega) rfl
          have d0 : wr.cell? ⟨b', o', none⟩ = some (.string (str (l.getD 0 []))) := hd 0 _ (by omega) rfl
          have hix0 : ∀ w', (Instr.indexAt 46 (.slice ad0 N cap0) (.int .i64 0)).run Try.prog w' = .ok (.pointer (some ⟨b', o', none⟩)) w' := hix'
          have hil : i < l.length := by rw [← HN.out]; exact hlt
          have hs1 := HOK.out i hil
          have hs0 := HOK.out 0 (by omega)
          have HB2 : Hid (bad2 l i = (idV (l.getD i []) != idV (l.getD 0 []))) := rfl
          have HIL : Hid (i < l.length) := hil
          clear hc hd hix' hil
          generalize l.getD i [] = s at *
          generalize l.getD 0 [] = s0 at *
          have x1 : (str s).extract 5 10 = str (idV s) := by rw [str_extract]; rfl
          have x2 : (str s0).extract 5 10 = str (idV s0) := by rw [str_extract]; rfl
          have y1 : (10 : Int) ≤ ((str s).size : Int) := by rw [str_size]; omega
          have y2 : (10 : Int) ≤ ((str s0).size : Int) := by rw [str_size]; omega
          by_cases hq : idV s = idV s0
          · have hqb : ((str (idV s)).toList == (str (idV s0)).toList) = true := by rw [str_beq, hq]; simp
            have HF : Hid (bad2 l i = false) := by show _ = _; rw [HB2.out, hq]; simp
            clear hq
            go_wp2_with fail
            go_quiet (fail)
            go_wp2_with fail
            go_roundw
            case rel => exact ⟨i + 1, by omega, by go_num, fun j hj => by rcases Nat.lt_or_ge j i with h | h; (exact HBAD.out j h); (rw [show j = i by omega]; exact HF.out), below_drewN hbw _⟩
            case measure => simp [intOf]; omega
          · have hqb : ((str (idV s)).toList == (str (idV s0)).toList) = false := by rw [str_beq, beq_eq_false_iff_ne]; exact hq
            have HR : Hid (joinRd l = ⟨[], 14, i⟩) := joinRd_bad2 H1.out (firstOf_some.mpr ⟨by rw [HB2.out, bne_iff_ne]; exact hq, HIL.out, HBAD.out⟩)
            clear hq
            go_wp2_with fail
            go_quiet (fail)
            go_wp2_with fail
            go_ret3
            exact ⟨by rw [HR.out]; rfl, below_drewN hbw _⟩
        · obtain rfl : N = i := by omega
          have H2 : Hid (firstOf (bad2 l) l.length = none) := firstOf_none.mpr (by rw [← HN.out]; exact HBAD.out)
          clear HBW
          have HBW : Hid (Below w.heap.size w wr) := hbw
          clear HBAD hbw hi hlt
          generalize hWW : wr = W at *
          clear hWW
          go_wp2_with fail
          go_loopw [8, 9] (fun u _ wr => ∃ (i : Nat), i ≤ N ∧ u = .int .i64 i ∧ (∀ j, j < i → bad3 l j = false) ∧ Below w.heap.size w wr) (fun u _ _ => N - (intOf u).toNat)
          case atStart => exact ⟨0, by omega, rfl, by intro j hj; omega, HBW.out⟩
          case round =>
            obtain ⟨i, hi, rfl, hbad, hbw⟩ := hrel
            have HBAD : Hid (∀ j, j < i → bad3 l j = false) := hbad
            clear hbad
            by_cases hlt : i < N
            · obtain ⟨b, o, hbl, hix, hc⟩ := (hL.below hbw).at cap0 (P := Try.prog) (t := 46) (by kernel_rfl) (by kernel_rfl) hlt
              have c0 : wr.cell? ⟨b, o, none⟩ = some (.string (str (l.getD i []))) := hc 0 _ (by omega) rfl
              have hil : i < l.length := by rw [← HN.out]; exact hlt
              have hs1 := HOK.out i hil
              obtain ⟨ha1, ha2⟩ := bad3_at hil
              have HA : Hid (atI l (numV (l.getD i [])) = (atV l (numV (l.getD i [])) : Int)) := by show _ = _; unfold atI; rw [if_pos ha1]
              have HIL : Hid (i < l.length) := hil
              clear hc hil ha1
              generalize l.getD i [] = s at *
              have l4 : 4 < (str s).size := by rw [str_size]; omega
              have e4 := at_num l4
              have hnl := numV_lt s
              have hwr : wrap64 (((str s)[4]'l4).toNat : Int) = (numV s : Int) := by rw [e4]; unfold wrap64; omega
              have hwr2 : wrap64 (numV s : Int) = (numV s : Int) := by unfold wrap64; omega
              have HL : Hid (Lies wr ad0 N 1 (fun i => [.string (str (l.getD i []))])) := hL.below hbw
              have HA2 : Hid (bad3 l i = true ↔ atV l (numV s) < i) := ha2
              clear ha2
              go_wp2_with fail
              refine (rat_any l (numV s) ad0 N cap0 _ HL.out HN.out HOK.out hb).mono ?_
              rintro e w1 ⟨rfl, hb1⟩
              have hbw1 := hbw.trans (hb1.mono hbw.size)
              rw [HA.out]
              clear hbw hb1 c0 hwr hwr2 e4
              by_cases hq : atV l (numV s) < i
              · have HR : Hid (joinRd l = ⟨[], 15, i⟩) := joinRd_bad3 H1.out H2.out (firstOf_some.mpr ⟨HA2.out.2 hq, HIL.out, HBAD.out⟩)
                generalize atV l (numV s) = k at *
                go_wp2_with fail
                go_ret3
                exact ⟨by rw [HR.out]; rfl, hbw1⟩
              · have HF : Hid (bad3 l i = false) := by
                  show _ = _
                  cases h : bad3 l i with
                  | false => rfl
                  | true => exact absurd (HA2.out.1 h) hq
                generalize atV l (numV s) = k at *
                go_wp2_with fail
                go_roundw
                case rel => exact ⟨i + 1, by omega, by go_num, fun j hj => by rcases Nat.lt_or_ge j i with h | h; (exact HBAD.out j h); (rw [show j = i by omega]; exact HF.out), hbw1⟩
                case measure => simp [intOf]; omega
            · obtain rfl : N = i := by omega
              have H3 : Hid (firstOf (bad3 l) l.length = none) := firstOf_none.mpr (by rw [← HN.out]; exact HBAD.out)
              clear HBW
              have HBW : Hid (Below w.heap.size w wr) := hbw
              have HL : Hid (Lies wr ad0 N 1 (fun i => [.string (str (l.getD i []))])) := hL.below hbw
              clear HBAD hbw hi hlt
              generalize hWW : wr = W at *
              clear hWW
              by_cases h0 : N = 0
              · have HR : Hid (joinRd l = ⟨[], 16, 0⟩) := joinRd_miss H1.out H2.out H3.out (Or.inl (by rw [← HN.out]; exact h0))
                subst h0
                go_wp2_with fail
                go_ret3
                exact ⟨by rw [HR.out]; rfl, HBW.out⟩
              · have hk0 : 0 < N := by omega
                obtain ⟨b', o', hbl', hix', hd⟩ := HL.out.at cap0 (P := Try.prog) (t := 46) (by kernel_rfl) (by kernel_rfl) (k := 0) hk0
                have d0 : W.cell? ⟨b', o', none⟩ = some (.string (str (l.getD 0 []))) := hd 0 _ (by omega) rfl
                have hix0 : ∀ w', (Instr.indexAt 46 (.slice ad0 N cap0) (.int .i64 0)).run Try.prog w' = .ok (.pointer (some ⟨b', o', none⟩)) w' := hix'
                have hs0 := HOK.out 0 (by rw [← HN.out]; exact hk0)
                have HRM := joinRd_miss H1.out H2.out H3.out
                have HRS := joinRd_sum H1.out H2.out H3.out
                have HRO := joinRd_ok H1.out H2.out H3.out
                have HAT := at_lt (firstOf_none.mp H1.out) (firstOf_none.mp H2.out) (firstOf_none.mp H3.out)
                clear hd hix'
                generalize l.getD 0 [] = s0 at *
                have l5 : 5 < (str s0).size := by rw [str_size]; omega
                have e5 := at_cnt l5
                have hcl := cntV_lt s0
                have wc : wrap64 (((str s0)[5]'l5).toNat : Int) = (cntV s0 : Int) := by rw [e5]; unfold wrap64; omega
                have wc2 : wrap64 (cntV s0 : Int) = (cntV s0 : Int) := by unfold wrap64; omega
                have q0 : ((N : Int) == 0) = false := by rw [beq_eq_false_iff_ne]; omega
                by_cases hcc : N = cntV s0
                · have q1 : ((N : Int) != (cntV s0 : Int)) = false := by rw [← hcc]; simp
                  have HOK2 : ¬ (l.length = 0 ∨ l.length ≠ cntV s0) := by rw [← HN.out]; omega
                  have HS : Hid (fourI (crc pSum (allV l l.length)) ≠ sumV s0 → joinRd l = ⟨[], 8, 0⟩) := HRS HOK2
                  have HO : Hid (fourI (crc pSum (allV l l.length)) = sumV s0 → joinRd l = ⟨allV l l.length, 0, 0⟩) := HRO HOK2
                  have HA : Hid (∀ n, n < l.length → atV l n < l.length) := fun n hn => HAT (by rw [← HN.out]; exact hcc) hn
                  have hN255 : N ≤ 256 := by omega
                  have hix0H : Hid (∀ w', (Instr.indexAt 46 (.slice ad0 N cap0) (.int .i64 0)).run Try.prog w' = .ok (.pointer (some ⟨b', o', none⟩)) w') := hix0
                  clear HRM HRS HRO HAT hcc HOK2
                  go_wp2_with fail
                  clear hix0
                  go_loopw [10, 11, 12] (fun v u _ wr => ∃ (i : Nat), i ≤ N ∧ u = .int .i64 i ∧ v = .string (str (allV l i)) ∧ Below W.heap.size W wr) (fun _ u _ _ => N - (intOf u).toNat)
                  case atStart => exact ⟨0, by omega, rfl, rfl, Below.refl _ _⟩
                  case round =>
                    obtain ⟨i, hi, rfl, rfl, hbw⟩ := hrel
                    have hal : (allV l i).length ≤ 8796093022208 := by
                      have h1 := allV_len l _ HLE.out i
                      have h2 : i * 34359738368 ≤ 256 * 34359738368 := Nat.mul_le_mul_right _ (by omega)
                      omega
                    by_cases hlt : i < N
                    · have hil : i < l.length := by rw [← HN.out]; exact hlt
                      have hat := HA.out i hil
                      have HAI : Hid (atI l i = (atV l i : Int)) := by show _ = _; unfold atI; rw [if_pos hat]
                      have HS1 : Hid (allV l (i + 1) = allV l i ++ bodyV (l.getD (atV l i) [])) := allV_succ l i
                      have hsl := HOK.out _ hat
                      have hsu := HLE.out _ (volAt_mem hat)
                      have hatN : atV l i < N := by rw [HN.out]; exact hat
                      clear hil hat
                      go_wp2_with fail
                      refine (rat_any l i ad0 N cap0 _ (HL.out.below hbw) HN.out HOK.out hb).mono ?_
                      rintro e w1 ⟨rfl, hb1⟩
                      have hbw1 := hbw.trans (hb1.mono hbw.size)
                      obtain ⟨b, o, hbl, hix, hc⟩ := (HL.out.below hbw1).at cap0 (P := Try.prog) (t := 46) (by kernel_rfl) (by kernel_rfl) hatN
                      have c0 : w1.cell? ⟨b, o, none⟩ = some (.string (str (l.getD (atV l i) []))) := hc 0 _ (by omega) rfl
                      rw [HAI.out]
                      clear hbw hb1 hc hatN HAI
                      generalize l.getD (atV l i) [] = s at *
                      generalize atV l i = k at *
                      have x1 : (str s).extract 10 (s.length - 4) = str (bodyV s) := by rw [str_extract]; unfold bodyV; rw [show s.length - 4 - 10 = s.length - 14 by omega]
                      have hbl2 : (bodyV s).length ≤ s.length := by unfold bodyV; rw [List.length_take, List.length_drop]; omega
                      obtain ⟨n, hn⟩ : ∃ n, s.length = n + 4 := ⟨s.length - 4, by omega⟩
                      have hz : (str s).size = n + 4 := by rw [str_size]; exact hn
                      have hsub : ((n : Int) + 4 - 4) = (n : Int) := by omega
                      rw [show s.length - 4 = n by omega] at x1
                      have y1 : (10 : Int) ≤ (n : Int) := by omega
                      have y2 : (n : Int) ≤ (n : Int) + 4 := by omega
                      have y3 : (10 : Int) ≤ (n : Int) + 4 := by omega
                      have hal2 := str_size (allV l i)
                      have hbl3 := str_size (bodyV s)
                      have hnb : n ≤ 34359738368 := by omega
                      clear hn
                      generalize allV l i = A at *
                      generalize bodyV s = B at *
                      go_wp2_with fail
                      go_roundw
                      case rel => exact ⟨i + 1, by omega, by go_num, by rw [HS1.out], hbw1⟩
                      case measure => simp [intOf]; omega
                    · obtain rfl : N = i := by omega
                      have HAL : Hid (allV l N = allV l l.length) := by show _ = _; rw [HN.out]
                      have d1 : wr.cell? ⟨b', o', none⟩ = some (.string (str s0)) := (hbw.cell (p := ⟨b', o', none⟩) hbl').trans d0
                      have hbl1 := Nat.lt_of_lt_of_le hbl' hbw.size
                      rw [HAL.out] at hal ⊢
                      have x1 : (str s0).extract 6 10 = str (sumV s0) := by rw [str_extract]; rfl
                      have y1 : (10 : Int) ≤ ((str s0).size : Int) := by rw [str_size]; omega
                      clear HAL d0 hi hlt HA
                      generalize allV l l.length = A at *
                      go_wp2_with fail
                      refine (rsum_any A _ hal).mono ?_
                      rintro e w1 ⟨rfl, hb1⟩
                      have d2 := (hb1.cell (p := ⟨b', o', none⟩) hbl1).trans d1
                      have hbl2 := Nat.lt_of_lt_of_le hbl1 hb1.size
                      have hbw1 := hbw.trans (hb1.mono hbw.size)
                      obtain ⟨c1, c2⟩ := crc_le pSum (by decide) A
                      clear d1 hb1 hbw
                      go_wp2_with fail
                      refine (rfour_any _ _ c1 c2).mono ?_
                      rintro e w2 ⟨rfl, hb2⟩
                      have d3 := (hb2.cell (p := ⟨b', o', none⟩) hbl2).trans d2
                      have hbw2 := hbw1.trans (hb2.mono hbw1.size)
                      have hix0 := hix0H.out
                      clear d2 hb2 hbw1
                      by_cases hq : fourI (crc pSum A) = sumV s0
                      · have hqb : ((str (fourI (crc pSum A))).toList == (str (sumV s0)).toList) = true := by rw [str_beq, hq]; simp
                        have hqc : ((str (fourI (crc pSum A))).toList != (str (sumV s0)).toList) = false := by rw [bne, hqb]; rfl
                        have HR : Hid (joinRd l = ⟨A, 0, 0⟩) := HO.out hq
                        clear hq
                        go_wp2_with fail
                        go_ret3
                        exact ⟨by rw [HR.out]; rfl, HBW.out.trans (hbw2.mono HBW.out.size)⟩
                      · have hqb : ((str (fourI (crc pSum A))).toList == (str (sumV s0)).toList) = false := by rw [str_beq, beq_eq_false_iff_ne]; exact hq
                        have hqc : ((str (fourI (crc pSum A))).toList != (str (sumV s0)).toList) = true := by rw [bne, hqb]; rfl
                        have HR : Hid (joinRd l = ⟨[], 8, 0⟩) := HS.out hq
                        clear hq
                        go_wp2_with fail
                        go_ret3
                        exact ⟨by rw [HR.out]; rfl, HBW.out.trans (hbw2.mono HBW.out.size)⟩
                · have q1 : ((N : Int) != (cntV s0 : Int)) = true := by rw [bne_iff_ne]; omega
                  have HR : Hid (joinRd l = ⟨[], 16, 0⟩) := HRM (Or.inr (by rw [← HN.out]; exact hcc))
                  clear HRM HRS HRO HAT hcc
                  go_wp2_with fail
                  go_ret3
                  exact ⟨by rw [HR.out]; rfl, HBW.out⟩
end Go.Proofs.Ytdjpkgaicmklmaa

/- Rows of strings of the call's own. -/
namespace Go.Proofs.Ytdjpkgaicmklmaa
open Go.RowKit

/-- A row of strings. -/
abbrev srows (l : List (List UInt8)) : List (List Value) := l.map fun s => [Value.string (str s)]
theorem srows_flat (l : List (List UInt8)) : (srows l).flatten = strs l := strs_flat l
theorem srows_at {w : World} {g : Nat} {e : TypeId} {l : List (List UInt8)} (h : Own w g e 1 (srows l)) (k : Nat) (hk : k < l.length) : w.cell? ⟨g, k, none⟩ = some (.string (str (l.getD k []))) ∧ w.frozen? ⟨g, k, none⟩ = false := by
  constructor
  · have := h.cell k 0 (by simpa using hk) (by omega)
    rw [Nat.add_zero, Nat.mul_one] at this
    rw [this]
    simp [List.getD, hk]
  · simp [World.frozen?, h.block]
theorem srows_set {w : World} {g : Nat} {e : TypeId} {l : List (List UInt8)} (h : Own w g e 1 (srows l)) (k : Nat) (x : List UInt8) : Own (w.setCell ⟨g, k, none⟩ (.string (str x))) g e 1 (srows (l.set k x)) := by
  refine ⟨by intro r hr; obtain ⟨y, _, rfl⟩ := List.mem_map.1 hr; rfl, ?_⟩
  rw [heap_setCell_same w g k _ e _ h.block]
  congr 2
  rw [srows_flat, srows_flat, strs, strs, List.map_set]
  simp
theorem srows_lies {w : World} {g : Nat} {e : TypeId} {L l : List (List UInt8)} {ad : Option Addr} {N : Nat} (h : Own w g e 1 (srows L)) (had : ad = some ⟨g, 0, none⟩) (hN : N ≤ L.length) (hf : ∀ i, i < N → L.getD i [] = l.getD i []) : Lies w ad N 1 (fun i => [.string (str (l.getD i []))]) := by
  refine Or.inr ⟨g, 0, had, (Array.getElem?_eq_some_iff.1 h.block).1, fun i hi j v hj hv => ?_⟩
  obtain rfl : j = 0 := by omega
  rw [show 0 + i * 1 + 0 = i by omega, (srows_at h i (by omega)).1, hf i hi]
  simpa using hv
theorem srows_bx {w : World} {g : Nat} {e : TypeId} {l : List (List UInt8)} (h : Own w g e 1 (srows l)) : Bx w g e (strs l) := ⟨by have := h.block; rw [srows_flat] at this; exact this⟩
theorem bx_srows {w : World} {g : Nat} {e : TypeId} {l : List (List UInt8)} (h : Bx w g e (strs l)) : Own w g e 1 (srows l) :=
  ⟨by intro r hr; obtain ⟨y, _, rfl⟩ := List.mem_map.1 hr; rfl, by rw [srows_flat]; exact h.h⟩
theorem strs_at {l : List (List UInt8)} {k : Nat} (h : k < l.length) : (strs l)[k]? = some (.string (str (l.getD k []))) := by simp [strs, List.getD, h]
theorem strs_set (l : List (List UInt8)) (k : Nat) (x : List UInt8) : (strs l).set k (.string (str x)) = strs (l.set k x) := by rw [strs, strs, List.map_set]
theorem Vec.cell1 {w : World} {B e : Nat} {ad : Option Addr} {n cap : Nat} {xs : List Value} (h : Vec w B e 1 ad n cap xs) {P : Program} {t : TypeId}
    (ht : P.underlying t = some (.slice (P.elem t))) (hs : (P.info? (P.elem t)).map (·.size) = some 1) {i : Nat} (hi : i < n) (N : Int) (hN : N = (i : Int)) :
    ∃ g, ad = some ⟨g, 0, none⟩ ∧ B ≤ g ∧ g < w.heap.size ∧ (∀ w', (Instr.indexAt t (.slice ad n cap) (.int .i64 N)).run P w' = .ok (.pointer (some ⟨g, i, none⟩)) w') ∧
      w.cell? ⟨g, i, none⟩ = xs[i]? ∧ w.frozen? ⟨g, i, none⟩ = false ∧ (∀ u, Vec (w.setCell ⟨g, i, none⟩ u) B e 1 ad n cap (xs.set i u)) := by
  obtain ⟨g, rfl, hB, hl⟩ := h.form (by omega)
  refine ⟨g, rfl, hB, hl, fun w' => ?_, ?_, World.ownsRow.frozenAt h _, fun u => (World.ownsRow.stored h i u).1⟩
  · have := Own.idx (P := P) (t := t) (m := 1) (had := rfl) n cap ht hs hi N hN w' (g := g)
    rw [Nat.mul_one] at this; exact this
  · exact World.ownsRow.cellAt h i (by omega)
end Go.Proofs.Ytdjpkgaicmklmaa

/- While the owner writes a list of strings over: as for lists of records, but the mark lies in no variable. -/
namespace Go.Proofs.Ytdjpkgaicmklmaa
open Go.RowKit

def ShSt (l : List Value) : Prop := ∃ s : List UInt8, l = [.string (str s)]

structure Su (Sh : List Value → Prop) (w0 w : World) (B B1 go tT e eb m f : Nat) (oc mk : List Value) (ad : Option Addr) (N cap : Nat) (a4 : Option Addr) (c4 : Nat) (L : List Bk) : Prop where
  o : Bx w go tT oc
  l : Vec w B1 e m ad N cap (rep N mk)
  b : Vec w B eb (m + 1) a4 L.length c4 (bcells L)
  each : ∀ x, x ∈ L → Reads1 Sh w B e m x ∧ ((∀ b, x.ad = some b → b.block < B1) ∨ x.mrk = mk)
  at_ : oc[f]? = some (.slice a4 L.length c4)
  mark : mk.length = m
  low : B ≤ go
  big : B ≤ B1
  old : Below B w0 w
  but : But3 go e eb w0 w

theorem Su.step {Sh : List Value → Prop} {w0 w w' : World} {B B1 go tT e eb m f : Nat} {oc mk : List Value} {ad : Option Addr} {N cap : Nat} {a4 : Option Addr} {c4 : Nat} {L : List Bk} (h : Su Sh w0 w B B1 go tT e eb m f oc mk ad N cap a4 c4 L) (hb : Below w.heap.size w w') (hB : B ≤ w.heap.size) : Su Sh w0 w' B B1 go tT e eb m f oc mk ad N cap a4 c4 L :=
  ⟨h.o.below hb h.o.lt, h.l.keep hb, h.b.keep hb, fun x hx => ⟨⟨(h.each x hx).1.len, (h.each x hx).1.vec.keep hb, (h.each x hx).1.few, (h.each x hx).1.shape⟩, (h.each x hx).2⟩, h.at_, h.mark, h.low, h.big, h.old.trans (hb.mono hB), h.but.trans (But3.of_below hb)⟩
theorem Su.push {Sh : List Value → Prop} {w0 w w' : World} {B B1 go tT e eb m f : Nat} {oc mk : List Value} {ad : Option Addr} {N cap : Nat} {a4 : Option Addr} {c4 : Nat} {L : List Bk} (h : Su Sh w0 w B B1 go tT e eb m f oc mk ad N cap a4 c4 L) (hk : Kp (ad.map (·.block)) mk w w')
    (h1 : e ≠ tT) (h2 : e ≠ eb) (hB : B ≤ w.heap.size) : Su Sh w0 w' B B1 go tT e eb m f oc mk ad N cap a4 c4 L := by
  refine ⟨h.o.kp hk (h.o.apart h.l h1), h.l.kp h.mark hk (fun _ _ _ => rfl), h.b.kpo hk (fun b hb hb' => ?_), fun x hx => ?_, h.at_, h.mark, h.low, h.big, hk.below h.old hB (fun k e => Nat.le_trans h.big (h.l.typed k e).1), h.but.trans (But3.of_kp hk fun k e => ?_)⟩
  · exact h.b.apart h.l (fun e => h2 e.symm) b hb hb'
  · obtain ⟨h3, h4⟩ := h.each x hx
    refine ⟨⟨h3.len, h3.vec.kp h3.len hk (fun b hb hb' => ?_), h3.few, h3.shape⟩, h4⟩
    rcases h4 with h4 | h4
    · have := (h.l.typed _ hb').1; have := h4 b hb; omega
    · exact h4
  · obtain ⟨_, cur, hc⟩ := h.l.typed k e; exact ⟨cur, _, hc, Or.inl rfl⟩
theorem Su.book {Sh : List Value → Prop} {w0 w w' : World} {B B1 go tT e eb m f : Nat} {oc mk : List Value} {ad : Option Addr} {N cap : Nat} {a4 : Option Addr} {c4 : Nat} {L : List Bk} (h : Su Sh w0 w B B1 go tT e eb m f oc mk ad N cap a4 c4 L) {x : Bk} {a5 : Option Addr} {c5 : Nat}
    (hv : Vec w' B eb (m + 1) a5 (L.length + 1) c5 (bcells L ++ x.cells)) (hk : Kp (a4.map (·.block)) x.cells w w') (hx : Reads1 Sh w B e m x) (hm : x.mrk = mk) (h1 : eb ≠ tT) (h2 : e ≠ eb) (h3 : e ≠ tT) (hf : f < oc.length) (hB : B ≤ w.heap.size) :
    Su Sh w0 (w'.setCell ⟨go, f, none⟩ (.slice a5 (L.length + 1) c5)) B B1 go tT e eb m f (oc.set f (.slice a5 (L.length + 1) c5)) mk ad N cap a5 c5 (L ++ [x]) := by
  have hu : Upd go w' (w'.setCell ⟨go, f, none⟩ (.slice a5 (L.length + 1) c5)) := (Upd.refl go w').setCell _ rfl _
  have ho : Bx w' go tT oc := h.o.kp hk (h.o.apart h.b h1)
  have hl : Vec w' B1 e m ad N cap (rep N mk) := h.l.kpo hk (fun b hb hb' => h.l.apart h.b h2 b hb hb')
  have each : ∀ y, Reads1 Sh w B e m y → Reads1 Sh (w'.setCell ⟨go, f, none⟩ (.slice a5 (L.length + 1) c5)) B e m y := fun y hy => by
    have := hy.vec.kpo hk (fun b hb hb' => hy.vec.apart h.b h2 b hb hb')
    exact ⟨hy.len, this.updo hu (fun b hb e1 => ho.apart this h3 (by rw [hb]; simp [e1])), hy.few, hy.shape⟩
  refine ⟨ho.setCell f _, hl.updo hu (fun b hb e1 => ho.apart hl h3 (by rw [hb]; simp [e1])), ?_, fun y hy => ?_, ?_, h.mark, h.low, h.big, ?_, ?_⟩
  · rw [bcells_snoc, List.length_append]
    exact hv.updo hu (fun b hb e1 => ho.apart hv h1 (by rw [hb]; simp [e1]))
  · rcases List.mem_append.1 hy with hy | hy
    · exact ⟨each y (h.each y hy).1, (h.each y hy).2⟩
    · simp at hy; subst hy; exact ⟨each _ hx, Or.inr hm⟩
  · simp [hf]
  · exact hu.below (hk.below h.old hB (fun k e => (h.b.typed k e).1)) h.low
  · exact (h.but.trans (But3.of_kp hk fun k e1 => by obtain ⟨_, cur, hc⟩ := h.b.typed k e1; exact ⟨cur, _, hc, Or.inr rfl⟩)).trans (But3.of_upd hu (Or.inl rfl))
/-- .. and the owner's variable bears the longer list. -/
theorem Su.book2 {Sh : List Value → Prop} {w0 w w' w'' : World} {B B1 go tT e eb m f q : Nat} {oc mk : List Value} {ad : Option Addr} {N cap : Nat} {a4 : Option Addr} {c4 : Nat} {L : List Bk} (h : Su Sh w0 w B B1 go tT e eb m f oc mk ad N cap a4 c4 L) {x : Bk} {a5 : Option Addr} {c5 : Nat}
    (hv : Vec w' B eb (m + 1) a5 (L.length + 1) c5 (bcells L ++ x.cells)) (hk : Kp (a4.map (·.block)) x.cells w w') (hu : Upd go w' w'') (hO : Bx w'' go tT (oc.set f (.slice a5 (L.length + 1) c5))) (hx : Reads1 Sh w B e m x) (hm : x.mrk = mk) (h1 : eb ≠ tT) (h2 : e ≠ eb) (h3 : e ≠ tT) (hf : f < oc.length) (hB : B ≤ w.heap.size) (hq : L.length = q) :
    ∃ L1, L1.length = q + 1 ∧ B ≤ w''.heap.size ∧ Su Sh w0 w'' B B1 go tT e eb m f (oc.set f (.slice a5 L1.length c5)) mk ad N cap a5 c5 L1 := by
  have ho : Bx w' go tT oc := h.o.kp hk (h.o.apart h.b h1)
  have hl : Vec w' B1 e m ad N cap (rep N mk) := h.l.kpo hk (fun b hb hb' => h.l.apart h.b h2 b hb hb')
  have each : ∀ y, Reads1 Sh w B e m y → Reads1 Sh w'' B e m y := fun y hy => by
    have := hy.vec.kpo hk (fun b hb hb' => hy.vec.apart h.b h2 b hb hb')
    exact ⟨hy.len, this.updo hu (fun b hb e1 => ho.apart this h3 (by rw [hb]; simp [e1])), hy.few, hy.shape⟩
  have e1 : (L ++ [x]).length = L.length + 1 := by simp
  refine ⟨L ++ [x], by rw [e1, hq], by rw [hu.size]; exact Nat.le_trans hB hk.size, by rw [e1]; exact hO, hl.updo hu (fun b hb e1 => ho.apart hl h3 (by rw [hb]; simp [e1])), ?_, fun y hy => ?_, ?_, h.mark, h.low, h.big, ?_, ?_⟩
  · rw [bcells_snoc, e1]
    exact hv.updo hu (fun b hb e1 => ho.apart hv h1 (by rw [hb]; simp [e1]))
  · rcases List.mem_append.1 hy with hy | hy
    · exact ⟨each y (h.each y hy).1, (h.each y hy).2⟩
    · simp at hy; subst hy; exact ⟨each _ hx, Or.inr hm⟩
  · simp [hf]
  · exact hu.below (hk.below h.old hB (fun k e => (h.b.typed k e).1)) h.low
  · exact (h.but.trans (But3.of_kp hk fun k e1 => by obtain ⟨_, cur, hc⟩ := h.b.typed k e1; exact ⟨cur, _, hc, Or.inr rfl⟩)).trans (But3.of_upd hu (Or.inl rfl))
theorem Su.six {Sh : List Value → Prop} {w0 w X w6 : World} {B B1 go tT e eb m f : Nat} {oc mk row : List Value} {ad : Option Addr} {N cap : Nat} {a4 : Option Addr} {c4 : Nat} {L : List Bk} (hk : Kp (a4.map (·.block)) row X w6) (h : Su Sh w0 w B B1 go tT e eb m f oc mk ad N cap a4 c4 L) (hb : Below w.heap.size w X) (hB : B ≤ w.heap.size) (h1 : eb ≠ tT) {x : Bk} (hx : Reads1 Sh w B e m x) :
    Reads1 Sh X B e m x ∧ B ≤ X.heap.size ∧ Su Sh w0 X B B1 go tT e eb m f oc mk ad N cap a4 c4 L ∧ w6.cell? ⟨go, f, none⟩ = some (.slice a4 L.length c4) ∧ w6.frozen? ⟨go, f, none⟩ = false := by
  have h2 := h.step hb hB
  have h3 := h2.o.kp hk (h2.o.apart h2.b h1)
  exact ⟨⟨hx.len, hx.vec.keep hb, hx.few, hx.shape⟩, Nat.le_trans hB hb.size, h2, by rw [h3.cell, h.at_], h3.frozen f⟩
theorem Su.start {Sh : List Value → Prop} {w w1 w3 : World} {B B1 go tT e eb m f : Nat} {oc0 oc mk xs : List Value} {ad : Option Addr} {N cap : Nat} {a4 : Option Addr} {c4 : Nat} {L : List Bk} (hO : Bx w go tT oc0) (hO1 : Bx w1 go tT oc) (hU : Upd go w w1) (hK : Books Sh w B e eb m a4 c4 L)
    (hfr : ∀ x, x ∈ L → ∀ b, x.ad = some b → b.block < B1) (hv : Vec w B1 e m ad N cap xs) (hu : Upo (ad.map (·.block)) w1 w3) (hv3 : Vec w3 B1 e m ad N cap (rep N mk)) (hf : oc[f]? = some (.slice a4 L.length c4)) (hm : mk.length = m)
    (hB : B ≤ go) (hB1 : B ≤ B1) (h1 : e ≠ tT) (h2 : eb ≠ tT) (h3 : e ≠ eb) : Su Sh w w3 B B1 go tT e eb m f oc mk ad N cap a4 c4 L := by
  have hz := hU.size
  have hlt : ∀ k, ad.map (·.block) = some k → B1 ≤ k ∧ k < w1.heap.size ∧ k ≠ go := by
    intro k hk
    obtain ⟨h4, cur, hc⟩ := hv.typed k hk
    refine ⟨h4, by rw [hz]; exact (Array.getElem?_eq_some_iff.1 hc).1, fun e1 => hO.apart hv h1 (by rw [hk, e1])⟩
  have tr : ∀ {B' e' m' : Nat} {ad' : Option Addr} {n' cap' : Nat} {xs' : List Value}, Vec w B' e' m' ad' n' cap' xs' → e' ≠ tT → (∀ b, ad' = some b → ad.map (·.block) ≠ some b.block) → Vec w3 B' e' m' ad' n' cap' xs' := by
    intro B' e' m' ad' n' cap' xs' h4 h5 h6
    exact (h4.updo hU (fun b hb e1 => hO.apart h4 h5 (by rw [hb]; simp [e1]))).upo hu h6
  refine ⟨hO1.upo hu (fun e1 => (hlt _ e1).2.2 rfl), hv3, tr hK.list h2 (fun b hb e1 => hK.list.apart hv (fun e => h3 e.symm) b hb e1), fun x hx => ⟨⟨(hK.each x hx).len, tr (hK.each x hx).vec h1 (fun b hb e1 => ?_), (hK.each x hx).few, (hK.each x hx).shape⟩, Or.inl (hfr x hx)⟩, hf, hm, hB, hB1, ?_, ?_⟩
  · have := hfr x hx b hb; have := (hlt _ e1).1; omega
  · exact hu.below (hU.below (Below.refl _ _) hB) (fun k hk => Nat.le_trans hB1 (hlt k hk).1)
  · refine (But3.of_upd hU (Or.inl rfl)).trans (But3.of_upo hu fun k hk => ?_)
    obtain ⟨_, cur, hc⟩ := hv.typed k hk
    refine ⟨cur, e, ?_, Or.inl rfl⟩
    rw [hU.block k (hlt k hk).2.2]; exact hc
end Go.Proofs.Ytdjpkgaicmklmaa

/- The owner writes over what came out: (*parcellaw.own).strings, walked. -/
namespace Go.Proofs.Ytdjpkgaicmklmaa
open Go.RowKit
attribute [local go_sem] str_size str_append mk_append_str str_append_mk

theorem rep_set (v : Value) : ∀ (i : Nat) (ys : List Value), 0 < ys.length → (rep i [v] ++ ys).set i v = rep (i + 1) [v] ++ ys.drop 1 := by
  intro i ys hy
  have hl : (rep i [v]).length = i := by rw [rep_length]; simp
  rw [List.set_append_right _ _ (by omega), hl, Nat.sub_self, rep_add, rep_one, List.append_assoc]
  cases ys with
  | nil => simp at hy
  | cons y ys => simp
abbrev bkOf {Sh : List Value → Prop} {w : World} {B e m : Nat} {x : Bk} (_ : Reads1 Sh w B e m x) : Bk := x
def mkS (k : Nat) : List UInt8 := [109, 97, 114, 107] ++ List.replicate k 46
theorem mkS_succ (k : Nat) : mkS k ++ [46] = mkS (k + 1) := by simp [mkS, List.replicate_succ']
theorem mkS_len (k : Nat) : (mkS k).length = k + 4 := by simp [mkS]

set_option maxRecDepth 100000 in
set_option maxHeartbeats 4000000 in
theorem strings_any (w : World) (B B1 go : Nat) (n : Int) (v1 v2 v3 v4 : Value) (ad : Option Addr) (N cap : Nat) (xs : List Value) (a4 : Option Addr) (c4 : Nat) (L : List Bk) (hO : Bx w go 41 [.int .i64 n, v1, v2, v3, v4, .slice a4 L.length c4])
    (hK : Books ShSt w B 9 116 1 a4 c4 L) (hfr : ∀ x, x ∈ L → ∀ b, x.ad = some b → b.block < B1) (hv : Vec w B1 9 1 ad N cap xs) (hN : N ≤ 1099511627776) (hL : L.length ≤ 1000) (hB : B ≤ go) (hB1 : B ≤ B1) (hn0 : 0 ≤ n) (hn1 : n ≤ 1000) (hBw : B ≤ w.heap.size) (hB1w : B1 ≤ w.heap.size) :
    Calls Try.prog 55 #[.pointer (some ⟨go, 0, none⟩), .slice ad N cap] w fun e w' => (∃ v, e = .returned v) ∧ (∃ a5 c5 L5, L5.length = L.length + 4 ∧ Bx w' go 41 [.int .i64 (n + 1), v1, v2, v3, v4, .slice a5 L5.length c5] ∧ Books ShSt w' B 9 116 1 a5 c5 L5) ∧ Below B w w' ∧ But3 go 9 116 w w' := by
  have o0 := hO.cell 0
  dsimp only [List.getElem?_cons_zero] at o0
  have hU : Upd go w w := Upd.refl go w
  go_enter Try.func55, Try.ntmps55
  go_wp2_with (refine wpList_bput (by rfl) _ _ 3 (by rfl) go 41 0 (by rfl) _ (.int .i64 _) (by rfl) hO (by kernel_rfl) (by simp) (by rfl) (by rfl) ?_; intro w1 hO1 hU1; replace hU := hU.trans hU1; clear o0; dsimp only [List.set] at hO1; have o0 := hO1.cell 0; dsimp only [List.getElem?_cons_zero] at o0)
  clear hU1
  have z1 := hU.size
  have hU0 : Hid (Upd go w w1) := hU
  have HO : Hid (Bx w go 41 [.int .i64 n, v1, v2, v3, v4, .slice a4 L.length c4]) := hO
  have HO1 : Hid (Bx w1 go 41 [.int .i64 (n + 1), v1, v2, v3, v4, .slice a4 L.length c4]) := hO1
  have HK : Hid (Books ShSt w B 9 116 1 a4 c4 L) := hK
  have HFR : Hid (∀ x, x ∈ L → ∀ b, x.ad = some b → b.block < B1) := hfr
  have HV : Hid (Vec w B1 9 1 ad N cap xs) := hv
  clear hU hO hO1 hK hfr hv
  go_loopw [4, 5] (fun u v wr => ∃ (k : Nat), (k : Int) ≤ n + 1 ∧ v = .int .i64 k ∧ u = .string (str (mkS k)) ∧ wr = w1) (fun _ v _ => (n + 1).toNat - (intOf v).toNat)
  case atStart => exact ⟨0, by omega, rfl, rfl, rfl⟩
  case round =>
    obtain ⟨k, hk, rfl, rfl, hw⟩ := hrel
    subst hw
    have hkl := mkS_len k
    have HS := mkS_succ k
    by_cases hlt : (k : Int) < n + 1
    · go_wp2_with fail
      go_roundw
      case rel => exact ⟨k + 1, by omega, by go_num, by first | rfl | (rw [← HS]; done) | (simp [HS]; done), by first | rfl | trivial⟩
      case measure => simp [intOf]; omega
    · clear HS
      generalize mkS k = M at *
      clear hkl
      go_wp2_with fail
      go_loopw [6] (fun u w2 => ∃ (i : Nat) (ys : List Value), i ≤ N ∧ u = .int .i64 i ∧ Vec w2 B1 9 1 ad N cap (rep i [.string (str M)] ++ ys) ∧ Upo (ad.map (·.block)) wr w2) (fun u _ => N - (intOf u).toNat)
      case atStart => exact ⟨0, xs, Nat.zero_le _, rfl, by rw [rep_zero, List.nil_append]; exact HV.out.updo hU0.out (fun b hb e1 => HO.out.apart HV.out (by decide) (by rw [hb]; simp [e1])), Upo.refl _ _⟩
      case round =>
        obtain ⟨i, ys, hi, rfl, hvi, hup⟩ := hrel
        generalize hwq : wr = wr_2 at *
        clear hwq
        by_cases hlt2 : i < N
        · obtain ⟨g, hgd, hgB, hgl, hix, hc, hfz, hst⟩ := hvi.cell1 (P := Try.prog) (t := 46) (by kernel_rfl) (by kernel_rfl) hlt2 (i : Int) rfl
          have hyl : 0 < ys.length := by
            have := hvi.length
            rw [List.length_append, rep_length] at this
            simp at this; omega
          have hc' : ∃ v, wr_2.cell? ⟨g, i, none⟩ = some v := by
            rw [hc, List.getElem?_append_right (by rw [rep_length]; simp), rep_length]
            simp
            cases ys with
            | nil => simp at hyl
            | cons y ys => exact ⟨y, by simp⟩
          obtain ⟨vv, hc2⟩ := hc'
          have HST : Hid (∀ u, Vec (wr_2.setCell ⟨g, i, none⟩ u) B1 9 1 ad N cap ((rep i [.string (str M)] ++ ys).set i u)) := hst
          have HG : Hid (ad = some ⟨g, 0, none⟩) := hgd
          clear hst hgd hc
          go_wp2_with fail
          have hv5 := HST.out (.string (str M))
          rw [rep_set _ _ _ hyl] at hv5
          have hup2 := hup.upd ((Upd.refl g wr_2).setCell ⟨g, i, none⟩ rfl (.string (str M))) (by rw [HG.out]; rfl)
          go_roundw
          case rel => first | exact ⟨i + 1, by omega, by go_num, ⟨_, hv5⟩, hup2⟩ | exact ⟨i + 1, _, by omega, by go_num, hv5, hup2⟩
          case measure => simp [intOf]; omega
        · have hiN : i = N := by omega
          subst hiN
          have hy : ys = [] := by
            have := hvi.length
            rw [List.length_append, rep_length] at this
            exact List.eq_nil_of_length_eq_zero (by simp at this ⊢; omega)
          subst hy
          rw [List.append_nil] at hvi
          have hS := Su.start (f := 5) HO.out HO1.out hU0.out HK.out HFR.out HV.out hup hvi (by rfl) (by rfl) hB hB1 (by decide) (by decide) (by decide)
          have hwz : B ≤ wr_2.heap.size := Nat.le_trans hBw hS.old.size
          have HLL : Hid (L.length = L.length) := rfl
          clear HO HO1 hU0 HK HFR HV hup hvi o0 z1 hi hlt2 hlt hk
          generalize hWW : wr_2 = W at *
          clear hWW
          obtain ⟨L0, hL0⟩ : ∃ L0, L0 = L.length := ⟨_, rfl⟩
          replace HLL : Hid (L.length = L0) := hL0.symm
          have HL0 : Hid (L0 = L.length) := hL0
          have hLb : L0 ≤ 1000 := by omega
          clear hL0
          have hR : Reads1 ShSt W B 9 1 ⟨ad, i, cap, [.string (str M)]⟩ := ⟨rfl, hS.l.mono hB1, by simp only; omega, ⟨M, rfl⟩⟩
          have cf := hS.o.cell 5
          dsimp only [List.getElem?_cons_zero, List.getElem?_cons_succ] at cf
          go_wp2_with (first
            | (at_builtin; refine wpList_pushk (by rfl) _ _ 39 (by rfl) B 116 (1 + 1) 40 (.agg #[.slice none 0 0, .string ⟨#[]⟩]) Try.underlying39 (by kernel_rfl) rfl (by decide) _ _ _ _ (by rfl) (hS.b.keep ((Below.refl _ _).alloc (Nat.le_refl _) _)) _ 1 1 (Bk.cells (bkOf hR)) (by rfl) rfl ?_ ?_ ?_ ?_ ?_ ?_ ?_; exact newc1 _ (rep 1 (Bk.cells (bkOf hR))) _; (intro v h; simp at h; rcases h with rfl | rfl <;> rfl); (omega); (omega); (omega); (simp; omega); intro a5 c5 w6 hv6 hk6; obtain ⟨hR6, hX6, hS6, hr6, hf6⟩ := Su.six hk6 hS ((Below.refl _ _).alloc (Nat.le_refl _) _) hwz (by decide) hR; rw [rep_one] at hv6; dsimp only [bkOf] at hv6 hk6; have hO6 := hS6.o.kp hk6 (hS6.o.apart hS6.b (by decide)); clear hr6 hf6 hS hwz hR cf)
            | (refine wpList_bput (by rfl) _ _ 39 (by rfl) go 41 5 (by rfl) _ (.slice _ _ _) (by rfl) hO6 (by kernel_rfl) (by simp) (by rfl) (by rfl) ?_; intro w8 hO8 hU8; obtain ⟨L1, hLL1, hwz, hS⟩ := hS6.book2 hv6 hk6 hU8 hO8 hR6 rfl (by decide) (by decide) (by decide) (by simp) hX6 HLL.out; dsimp only [List.set] at hS; replace HLL : Hid (L1.length = _) := hLL1; replace hL : L1.length ≤ 1004 := (by have := HLL.out; omega); have cf := hS.o.cell 5; dsimp only [List.getElem?_cons_zero, List.getElem?_cons_succ] at cf; clear hLL1 hU8 hO8 hR6 hX6 hS6 hO6 hv6 hk6)
            | (at_builtin; refine wpList_pushk (by rfl) _ _ 46 (by rfl) B1 9 1 16 (.string ⟨#[]⟩) Try.underlying46 (by kernel_rfl) rfl (by decide) ad i cap _ (by rfl) (hS.l.keep ((Below.refl _ _).alloc (Nat.le_refl _) _)) _ 1 1 [.string (str M)] (by rfl) rfl ?_ ?_ ?_ ?_ ?_ ?_ ?_; exact newc1 _ (rep 1 [.string (str M)]) _; (intro v h; simp at h; subst h; rfl); (omega); (omega); (omega); (have := hS.old.size; simp; omega); intro a6 c6 w7 hv7 hk7; rw [← rep_add] at hv7; have hS8 := (hS.step ((Below.refl _ _).alloc (Nat.le_refl _) _) hwz).push hk7 (by decide) (by decide) (by simp; omega); have hz8 : B ≤ w7.heap.size := (by have := hk7.size; simp at this; omega); have hR : Reads1 ShSt w7 B 9 1 ⟨a6, i + 1, c6, [.string (str M)]⟩ := ⟨rfl, hv7.mono hB1, by simp only; omega, ⟨M, rfl⟩⟩; clear hS hwz hv7 hk7 cf; have hS := hS8; have hwz := hz8; clear hS8 hz8; have cf := hS.o.cell 5; dsimp only [List.getElem?_cons_zero, List.getElem?_cons_succ] at cf)
            | (at_builtin; refine wpList_pushk (by rfl) _ _ 46 (by rfl) B1 9 1 16 (.string ⟨#[]⟩) Try.underlying46 (by kernel_rfl) rfl (by decide) ad i cap _ (by rfl) (hS.l.keep ((Below.refl _ _).alloc (Nat.le_refl _) _)) _ 2 2 [.string (str M)] (by rfl) rfl ?_ ?_ ?_ ?_ ?_ ?_ ?_; exact newc1 _ (rep 2 [.string (str M)]) _; (intro v h; simp at h; subst h; rfl); (omega); (omega); (omega); (have := hS.old.size; simp; omega); intro a6 c6 w7 hv7 hk7; rw [← rep_add] at hv7; have hS8 := (hS.step ((Below.refl _ _).alloc (Nat.le_refl _) _) hwz).push hk7 (by decide) (by decide) (by simp; omega); have hz8 : B ≤ w7.heap.size := (by have := hk7.size; simp at this; omega); have hR : Reads1 ShSt w7 B 9 1 ⟨a6, i + 2, c6, [.string (str M)]⟩ := ⟨rfl, hv7.mono hB1, by simp only; omega, ⟨M, rfl⟩⟩; clear hS hwz hv7 hk7 cf; have hS := hS8; have hwz := hz8; clear hS8 hz8; have cf := hS.o.cell 5; dsimp only [List.getElem?_cons_zero, List.getElem?_cons_succ] at cf)
            | (at_builtin; refine wpList_pushk (by rfl) _ _ 46 (by rfl) B1 9 1 16 (.string ⟨#[]⟩) Try.underlying46 (by kernel_rfl) rfl (by decide) ad i cap _ (by rfl) (hS.l.keep ((Below.refl _ _).alloc (Nat.le_refl _) _)) _ 3 3 [.string (str M)] (by rfl) rfl ?_ ?_ ?_ ?_ ?_ ?_ ?_; exact newc1 _ (rep 3 [.string (str M)]) _; (intro v h; simp at h; subst h; rfl); (omega); (omega); (omega); (have := hS.old.size; simp; omega); intro a6 c6 w7 hv7 hk7; rw [← rep_add] at hv7; have hS8 := (hS.step ((Below.refl _ _).alloc (Nat.le_refl _) _) hwz).push hk7 (by decide) (by decide) (by simp; omega); have hz8 : B ≤ w7.heap.size := (by have := hk7.size; simp at this; omega); have hR : Reads1 ShSt w7 B 9 1 ⟨a6, i + 3, c6, [.string (str M)]⟩ := ⟨rfl, hv7.mono hB1, by simp only; omega, ⟨M, rfl⟩⟩; clear hS hwz hv7 hk7 cf; have hS := hS8; have hwz := hz8; clear hS8 hz8; have cf := hS.o.cell 5; dsimp only [List.getElem?_cons_zero, List.getElem?_cons_succ] at cf))
          exact bodyPost_end (results_none rfl _ _ _) rfl ⟨⟨_, rfl⟩, ⟨_, _, _, by rw [HLL.out, HL0.out], hS.o, ⟨hS.b, fun x hx => (hS.each x hx).1⟩⟩, hS.old, hS.but⟩
end Go.Proofs.Ytdjpkgaicmklmaa

/- Splits: called with any bytes, up to very many, and any size, it answers true. -/
namespace Go.Proofs.Ytdjpkgaicmklmaa
open Go.RowKit
attribute [local go_sem] str_beq

set_option maxRecDepth 100000 in
set_option maxHeartbeats 4000000 in
theorem sameStrings_any (N : Nat) (F : Nat → List UInt8) (a b : Option Addr) (ca cb : Nat) (w : World) (hA : Lies w a N 1 (fun i => [.string (str (F i))])) (hB : Lies w b N 1 (fun i => [.string (str (F i))])) (hN : N ≤ 9223372036854775807) :
    Calls Try.prog 54 #[.slice a N ca, .slice b N cb] w fun e w' => e = .returned (.bool true) ∧ Below w.heap.size w w' := by
  go_enter Try.func54, Try.ntmps54
  go_wp2
  go_loopw [5] (fun u wr => ∃ j : Nat, j ≤ N ∧ u = .int .i64 j ∧ Below w.heap.size w wr) (fun u _ => N - (intOf u).toNat)
  case atStart => exact ⟨0, Nat.zero_le _, rfl, Below.refl _ _⟩
  case round =>
    obtain ⟨j, hj, rfl, hbr⟩ := hrel
    by_cases hlt : j < N
    · obtain ⟨b, o, hbl, hix, hc⟩ := (hA.below hbr).at ca (P := Try.prog) (t := 46) (by kernel_rfl) (by kernel_rfl) hlt
      obtain ⟨b', o', hbl', hix', hd⟩ := (hB.below hbr).at cb (P := Try.prog) (t := 46) (by kernel_rfl) (by kernel_rfl) hlt
      have c0 : wr.cell? ⟨b, o, none⟩ = some (.string (str (F j))) := hc 0 _ (by omega) rfl
      have d0 : wr.cell? ⟨b', o', none⟩ = some (.string (str (F j))) := hd 0 _ (by omega) rfl
      clear hc hd
      go_wp2
      go_quiet (fail)
      go_wp2
      go_roundw
      case rel => exact ⟨j + 1, by omega, by go_num, below_drewN hbr _⟩
      case measure => simp [intOf]; omega
    · go_wp2
      go_ret
      exact ⟨rfl, hbr⟩

set_option maxRecDepth 100000 in
set_option maxHeartbeats 4000000 in
theorem keptT_any (w : World) (B go : Nat) (n : Int) (v1 v2 v3 : Value) (a4 : Option Addr) (c4 : Nat) (L : List Bk) (hO : Bx w go 41 [.int .i64 n, v1, v2, v3, .slice none 0 0, .slice a4 L.length c4]) (hK : Books ShSt w B 9 116 1 a4 c4 L) (hL : L.length ≤ 1004)
    (hR : Hid (∀ w', Below w.heap.size w w' → Calls Try.prog 94 #[.pointer (some ⟨go, 0, none⟩)] w' fun e w'' => e = .returned (.bool true) ∧ Below w'.heap.size w' w'')) :
    Calls Try.prog 46 #[.pointer (some ⟨go, 0, none⟩)] w fun e w' => e = .returned (.bool true) ∧ Below w.heap.size w w' := by
  have c5 := hO.cell 4
  dsimp only [List.getElem?_cons_zero, List.getElem?_cons_succ] at c5
  go_enter Try.func46, Try.ntmps46
  go_wp2_with fail
  go_loopw [3, 4] (fun u _ wr2 => u = .int .i64 0 ∧ wr2 = w) (fun _ _ _ => 0)
  case atStart => exact ⟨rfl, rfl⟩
  case round =>
    obtain ⟨rfl, hw⟩ := hrel
    subst hw
    go_wp2_with fail
    go_loopw [5, 6] (fun u _ w2 => ∃ i : Nat, i ≤ L.length ∧ u = .int .i64 i ∧ Below wr.heap.size wr w2) (fun u _ _ => L.length - (intOf u).toNat)
    case atStart => exact ⟨0, Nat.zero_le _, rfl, Below.refl _ _⟩
    case round =>
      obtain ⟨i, hi, rfl, hbr⟩ := hrel
      have hOr := hO.below hbr hO.lt
      have hKr := hK.keep hbr
      have cf := hOr.cell 5
      dsimp only [List.getElem?_cons_zero, List.getElem?_cons_succ] at cf
      by_cases hlt : i < L.length
      · have hx := hKr.each L[i] (List.getElem_mem hlt)
        obtain ⟨b, o, hbl, hix, hc⟩ := (books_lies hKr).at c4 (P := Try.prog) (t := 39) (by kernel_rfl) (by kernel_rfl) hlt
        obtain ⟨f, hf⟩ := hx.shape
        rw [show L.getD i ⟨none, 0, 0, []⟩ = L[i] by simp [List.getD, hlt]] at hc
        have s0 : wr.cell? ⟨b, o, none⟩ = some (.slice (L[i]).ad (L[i]).n (L[i]).cap) := hc 0 _ (by omega) rfl
        have hq : Lies wr (L[i]).ad (L[i]).n 1 (fun _ => [.string (str f)]) := rep_lies (by have := hx.vec; rw [hf] at this; exact this) rfl
        have few : (L[i]).n ≤ 1099511627780 := hx.few
        have s1 : wr.cell? ⟨b, o + 1, none⟩ = some (.string (str f)) := hc 1 _ (by omega) (by rw [Bk.cells, List.getElem?_cons_succ, hf]; rfl)
        clear hx hc hf
        generalize L[i] = X at *
        generalize hwr : wr = w5 at *
        clear hwr
        go_wp2_with fail
        go_loopw [6] (fun u wr2 => ∃ k : Nat, k ≤ X.n ∧ u = .int .i64 k ∧ Below w5.heap.size w5 wr2) (fun u _ => X.n - (intOf u).toNat)
        case atStart => exact ⟨0, Nat.zero_le _, rfl, Below.refl _ _⟩
        case round =>
          obtain ⟨k, hk, rfl, hbr2⟩ := hrel
          have cf2 := (hOr.below hbr2 hOr.lt).cell 5
          dsimp only [List.getElem?_cons_zero, List.getElem?_cons_succ] at cf2
          have s2 : wr.cell? ⟨b, o, none⟩ = some (.slice X.ad X.n X.cap) := (hbr2.cell (p := ⟨b, o, none⟩) hbl).trans s0
          have s3 : wr.cell? ⟨b, o + 1, none⟩ = some (.string (str f)) := (hbr2.cell (p := ⟨b, o + 1, none⟩) hbl).trans s1
          by_cases hlt2 : k < X.n
          · obtain ⟨b', o', hbl', hix', hd⟩ := (hq.below hbr2).at X.cap (P := Try.prog) (t := 46) (by kernel_rfl) (by kernel_rfl) hlt2
            have d0 : wr.cell? ⟨b', o', none⟩ = some (.string (str f)) := hd 0 _ (by omega) rfl
            clear hd
            go_wp2
            go_quiet (fail)
            go_wp2
            go_roundw
            case rel => exact ⟨k + 1, by omega, by go_num, below_drewN hbr2 _⟩
            case measure => simp [intOf]; omega
          · go_wp2
            go_roundw
            case rel => exact ⟨i + 1, by omega, by go_num, hbr.trans (hbr2.mono hbr.size)⟩
            case measure => simp [intOf]; omega
      · generalize hwr : wr = w5 at *
        clear hwr
        go_wp2_with fail
        refine (hR.out _ hbr).mono ?_
        rintro e w6 ⟨rfl, hb6⟩
        go_wp2_with fail
        go_ret
        exact ⟨rfl, hbr.trans (hb6.mono hbr.size)⟩

/-- The owner's variable and his books of strings. -/
structure OwnT (w : World) (B go : Nat) (n : Int) (a4 : Option Addr) (c4 : Nat) (L : List Bk) : Prop where
  o : Bx w go 41 [.int .i64 n, .slice none 0 0, .slice none 0 0, .slice none 0 0, .slice none 0 0, .slice a4 L.length c4]
  b : Books ShSt w B 9 116 1 a4 c4 L
theorem OwnT.keep {w w' : World} {B go : Nat} {n : Int} {a4 : Option Addr} {c4 : Nat} {L : List Bk} (h : OwnT w B go n a4 c4 L) (hb : Below w.heap.size w w') : OwnT w' B go n a4 c4 L := ⟨h.o.below hb h.o.lt, h.b.keep hb⟩
theorem OwnT.old {w : World} {B go : Nat} {n : Int} {a4 : Option Addr} {c4 : Nat} {L : List Bk} (h : OwnT w B go n a4 c4 L) : ∀ x, x ∈ L → ∀ b, x.ad = some b → b.block < w.heap.size := by
  intro x hx b hb
  obtain ⟨_, cur, hc⟩ := (h.b.each x hx).vec.typed b.block (by rw [hb]; rfl)
  exact (Array.getElem?_eq_some_iff.1 hc).1

theorem splitL_length (b : List UInt8) (size : Int) : (splitL b size).length ≤ 256 := by
  unfold splitL
  split
  · rename_i h
    rw [vols_len]
    exact Nat.le_of_lt (cnt_small _ _ (by have := h.1; omega) h.2.2)
  · simp

set_option maxRecDepth 100000 in
set_option maxHeartbeats 4000000 in
theorem split_any (s : List UInt8) (size : Int) (w : World) (B go : Nat) (n : Int) (a4 : Option Addr) (c4 : Nat) (L : List Bk) (hO : OwnT w B go n a4 c4 L) (hs : s.length ≤ 9223372036854775807) (hL : L.length ≤ 900) (hB : B ≤ go) (hn0 : 0 ≤ n) (hn1 : n ≤ 900) (hBw : B ≤ w.heap.size) :
    Calls Try.prog 23 #[.string (str s), .int .i64 size, .pointer (some ⟨go, 0, none⟩)] w fun e w' => (e = .returned (.bool true) ∧ ∃ a5 c5 L5, L5.length = L.length + 4 ∧ OwnT w' B go (n + 1) a5 c5 L5) ∧ Below B w w' := by
  have HO : Hid (OwnT w B go n a4 c4 L) := hO
  have HS : Hid (s.length ≤ 9223372036854775807) := hs
  clear hO hs
  go_enter Try.func23, Try.ntmps23
  go_wp2_with fail
  refine (psplit_any s size _ HS.out).mono ?_
  rintro e w1 ⟨ad, cap, N, rfl, h1⟩
  have H1 : Hid (N = (splitL s size).length ∧ Vec w1 w.heap.size 9 1 ad N cap (strs (splitL s size)) ∧ Below w.heap.size w w1) := h1
  clear h1
  go_wp2_with fail
  refine (rsplit_any s size _ HS.out).mono ?_
  rintro e w2 ⟨ad2, cap2, N2, rfl, h2⟩
  obtain rfl : N = N2 := by rw [H1.out.1, h2.1]
  have H2 : Hid (N = (splitL s size).length ∧ Vec w2 w1.heap.size 9 1 ad2 N cap2 (strs (splitL s size)) ∧ Below w1.heap.size w1 w2) := h2
  clear h2
  have hNb : N ≤ 256 := by have := splitL_length s size; have := H1.out.1; omega
  generalize splitE s size = E at *
  go_wp2_with fail
  refine (sameStrings_any N (fun i => (splitL s size).getD i []) ad ad2 cap cap2 _ (strs_lies (H1.out.2.1.keep H2.out.2.2) H1.out.1) (strs_lies H2.out.2.1 H1.out.1) (by omega)).mono ?_
  rintro e w3 ⟨rfl, hb3⟩
  have H3 : Hid (Below w2.heap.size w2 w3) := hb3
  clear hb3
  have H13 : Hid (Below w1.heap.size w1 w3) := H2.out.2.2.trans (H3.out.mono H2.out.2.2.size)
  have HW : Hid (Below w.heap.size w w3) := H1.out.2.2.trans (H13.out.mono H1.out.2.2.size)
  go_wp2_with fail
  refine (strings_any _ B w.heap.size go n _ _ _ _ ad N cap _ a4 c4 L (HO.out.keep HW.out).o (HO.out.keep HW.out).b HO.out.old (H1.out.2.1.keep H13.out) (by omega) (by omega) hB hBw hn0 (by omega) (Nat.le_trans hBw HW.out.size) HW.out.size).mono ?_
  rintro e w4 ⟨⟨v, rfl⟩, ⟨a5, c5, L5, hL5, h5⟩, hb4, -⟩
  have H5 : Hid (Bx w4 go 41 [.int .i64 (n + 1), .slice none 0 0, .slice none 0 0, .slice none 0 0, .slice none 0 0, .slice a5 L5.length c5] ∧ Books ShSt w4 B 9 116 1 a5 c5 L5) := h5
  have HL5 : Hid (L5.length = L.length + 4) := hL5
  have HB5 : Hid (Below B w w4) := (HW.out.mono hBw).trans hb4
  clear h5 hL5 hb4
  go_wp2_with fail
  refine (keptT_any _ B go (n + 1) _ _ _ a5 c5 L5 H5.out.1 H5.out.2 (by have := HL5.out; omega) (fun w' hw' => (rkept_nil w' go (n + 1) _ _ (H5.out.1.below hw' H5.out.1.lt)).mono fun e w'' h => ⟨h.1, by rw [h.2]; exact Below.refl _ _⟩)).mono ?_
  rintro e w6 ⟨rfl, hb6⟩
  have H6 : Hid (Below w4.heap.size w4 w6) := hb6
  clear hb6
  go_wp2_with fail
  go_ret
  exact ⟨⟨rfl, a5, c5, L5, HL5.out, ⟨H5.out.1.below H6.out H5.out.1.lt, H5.out.2.keep H6.out⟩⟩, HB5.out.trans (H6.out.mono (Nat.le_trans hBw HB5.out.size))⟩

set_option maxRecDepth 100000 in
set_option maxHeartbeats 4000000 in
theorem splits_any (s : List UInt8) (size : Int) (w : World) (hs : s.length ≤ 9223372036854775807) :
    Calls Try.prog 8 #[.string (str s), .int .i64 size] w fun e w' => e = .returned (.bool true) ∧ Below w.heap.size w w' := by
  obtain ⟨hO, hW, hB⟩ := one_box w 41 #[.int .i64 0, .slice none 0 0, .slice none 0 0, .slice none 0 0, .slice none 0 0, .slice none 0 0]
  have h0 : OwnT (w.alloc (.cells #[.int .i64 0, .slice none 0 0, .slice none 0 0, .slice none 0 0, .slice none 0 0, .slice none 0 0] 41)) w.heap.size w.heap.size 0 none 0 [] := ⟨hO, Books.nil _ _ _ _ _⟩
  have H0 : Hid (OwnT (w.alloc (.cells #[.int .i64 0, .slice none 0 0, .slice none 0 0, .slice none 0 0, .slice none 0 0, .slice none 0 0] 41)) w.heap.size w.heap.size 0 none 0 []) := h0
  clear h0 hO
  go_enter Try.func8, Try.ntmps8
  go_wp2_with fail
  refine (split_any s size _ w.heap.size w.heap.size 0 none 0 [] H0.out hs (by simp) (Nat.le_refl _) (by omega) (by omega) hB.size).mono ?_
  rintro e w1 ⟨⟨rfl, a5, c5, L5, hL5, hO5⟩, hb1⟩
  have hb2 := hB.trans hb1
  have hL6 : L5.length ≤ 900 := by simp at hL5; omega
  clear hL5
  go_wp2_with fail
  refine (split_any s size _ w.heap.size w.heap.size (0 + 1) a5 c5 L5 hO5 hs hL6 (Nat.le_refl _) (by omega) (by omega) hb2.size).mono ?_
  rintro e w2 ⟨⟨rfl, -⟩, hb3⟩
  go_wp2_with fail
  go_ret
  exact ⟨rfl, hb2.trans hb3⟩
end Go.Proofs.Ytdjpkgaicmklmaa

/- Lists of strings that are handed in with spare room, and looked at behind the call: walked; Joins. -/
namespace Go.Proofs.Ytdjpkgaicmklmaa
open Go.RowKit
attribute [local go_sem] str_beq

/-- The mark of the spare room. -/
def foS : List UInt8 := [102, 111, 114, 101, 105, 103, 110]
def roomS (i : Nat) : List (List UInt8) := List.replicate i foS ++ List.replicate (2 - i) []
theorem roomS_len (i : Nat) (h : i ≤ 2) : (roomS i).length = 2 := by simp [roomS]; omega
theorem roomS_set (l : List (List UInt8)) (i : Nat) (h : i < 2) : (l ++ roomS i).set (l.length + i) foS = l ++ roomS (i + 1) := by
  rw [List.set_append_right _ _ (by omega), Nat.add_sub_cancel_left]
  congr 1
  match i, h with
  | 0, _ => rfl
  | 1, _ => rfl
theorem getD_room (l r : List (List UInt8)) (i : Nat) (h : i < l.length) : (l ++ r).getD i [] = l.getD i [] := by
  rw [List.getD_eq_getElem?_getD, List.getElem?_append_left h, ← List.getD_eq_getElem?_getD]
theorem copy_room (l : List (List UInt8)) (N : Nat) (hN : N = l.length) : (List.range N).map (fun i => [Value.string (str (l.getD i []))]) ++ (List.replicate (N + 2) [Value.string ⟨#[]⟩]).drop N = srows (l ++ roomS 0) := by
  subst hN
  rw [srows, List.map_append]
  congr 1
  · apply List.ext_getElem?
    intro i
    by_cases hi : i < l.length
    · simp [hi]
    · simp [hi]
  · rw [List.drop_replicate, show l.length + 2 - l.length = 2 by omega]; rfl

set_option maxRecDepth 100000 in
set_option maxHeartbeats 4000000 in
theorem handedList_any (l : List (List UInt8)) (ad0 : Option Addr) (N cap0 : Nat) (w : World) (hL : Lies w ad0 N 1 (fun i => [.string (str (l.getD i []))])) (hN : N = l.length) (hb : N ≤ 1099511627776) :
    Calls Try.prog 24 #[.slice ad0 N cap0] w fun e w' => ∃ g ad, e = .returned (.slice ad N (N + 2)) ∧ ad = some ⟨g, 0, none⟩ ∧ w.heap.size ≤ g ∧ Own w' g 9 1 (srows (l ++ roomS 2)) ∧ Below w.heap.size w w' := by
  have HN : Hid (N = l.length) := hN
  have HC := copy_room l N hN
  have HCO : Hid ((List.range N).map (fun i => [Value.string (str (l.getD i []))]) ++ (List.replicate (N + 2) [Value.string ⟨#[]⟩]).drop N = srows (l ++ roomS 0)) := HC
  clear hN HC
  go_enter Try.func24, Try.ntmps24
  go_wp2_with (first
    | (at_make; refine wpList_make_ones (by rfl) _ _ 46 (by rfl) 9 (.string ⟨#[]⟩) 16 Try.underlying46 (by kernel_rfl) rfl (N + 2) _ ?_ (by rfl) (by rfl) ?_ ?_ ?_; (omega); (omega); (omega); intro g ad w1 he hg hl1 o1 hb1)
    | (refine wpList_copy_rows (by rfl) _ _ 46 46 (by rfl) 9 1 Try.underlying46 (by kernel_rfl) g ad he (N + 2) _ N _ _ (by rfl) (by rfl) (fun i => [.string (str (l.getD i []))]) _ o1 ?_ ?_ (hL.below hb1) ?_ ?_ ?_; (simp); (omega); (intro i _; rfl); (intro i _ v hv; simp at hv; subst hv; rfl); intro w2 o2 u2))
  rw [HCO.out] at o2
  have hb2 := u2.below hb1 hg
  clear o1 hb1 u2 hl1
  go_loopw [4] (fun v wr => ∃ i : Nat, i ≤ 2 ∧ v = .int .i64 i ∧ Own wr g 9 1 (srows (l ++ roomS i)) ∧ Below w.heap.size w wr) (fun u _ => 2 - (intOf u).toNat)
  case atStart => exact ⟨0, by omega, rfl, o2, hb2⟩
  case round =>
    obtain ⟨i, hi, rfl, o, hbw⟩ := hrel
    by_cases hlt : i < 2
    · have x1 := fun w' => Own.idx he (P := Try.prog) (t := 46) (m := 1) (N + 2) (N + 2) (by kernel_rfl) (by kernel_rfl) (k := N + i) (by omega) ((N : Int) + (i : Int)) (by omega) w'
      simp only [Nat.mul_one] at x1
      obtain ⟨c0, f0⟩ := srows_at o (N + i) (by rw [List.length_append, roomS_len i hi, ← HN.out]; omega)
      have HS : Hid (Own (wr.setCell ⟨g, N + i, none⟩ (.string (str foS))) g 9 1 (srows (l ++ roomS (i + 1)))) := by
        have := srows_set o (N + i) foS
        rw [show N + i = l.length + i by rw [HN.out], roomS_set l i hlt, ← HN.out] at this
        exact this
      have HB : Hid (Below w.heap.size w (wr.setCell ⟨g, N + i, none⟩ (.string (str foS)))) := ((Upd.refl g wr).setCell _ rfl _).below hbw hg
      clear o
      go_wp2_with fail
      go_roundw
      case rel => exact ⟨i + 1, by omega, by go_num, HS.out, HB.out⟩
      case measure => simp [intOf]; omega
    · obtain rfl : i = 2 := by omega
      have u1 : (0 : Int) ≤ (N : Int) := by omega
      have u2 : (N : Int) ≤ (N : Int) + 2 := by omega
      go_wp2_with fail
      go_ret
      exact ⟨g, ad, rfl, he.out, hg, o, hbw⟩

set_option maxRecDepth 100000 in
set_option maxHeartbeats 4000000 in
theorem stillList_any (l : List (List UInt8)) (ad0 : Option Addr) (N cap0 : Nat) (g : Nat) (ad : Option Addr) (w : World) (hL : Lies w ad0 N 1 (fun i => [.string (str (l.getD i []))])) (hN : N = l.length) (hb : N ≤ 1099511627776) (had : Hid (ad = some ⟨g, 0, none⟩)) (ho : Own w g 9 1 (srows (l ++ roomS 2))) :
    Calls Try.prog 27 #[.slice ad N (N + 2), .slice ad0 N cap0] w fun e w' => e = .returned (.bool true) ∧ Below w.heap.size w w' := by
  have HN : Hid (N = l.length) := hN
  have HL : Hid (Lies w ad0 N 1 (fun i => [.string (str (l.getD i []))])) := hL
  have HO : Hid (Own w g 9 1 (srows (l ++ roomS 2))) := ho
  have HL2 : Hid (Lies w ad N 1 (fun i => [.string (str (l.getD i []))])) := srows_lies ho had.out (by rw [List.length_append, hN]; omega) (fun i hi => getD_room _ _ _ (by omega))
  clear hL hN ho
  go_enter Try.func27, Try.ntmps27
  go_wp2_with fail
  refine (sameStrings_any N (fun i => l.getD i []) ad ad0 _ cap0 _ HL2.out HL.out (by omega)).mono ?_
  rintro e w1 ⟨rfl, hb1⟩
  have HO1 : Hid (Own w1 g 9 1 (srows (l ++ roomS 2))) := ⟨HO.out.even, by rw [hb1.block g (Array.getElem?_eq_some_iff.1 HO.out.block).1]; exact HO.out.block⟩
  have HB1 : Hid (Below w.heap.size w w1) := hb1
  clear hb1
  have u1 : (0 : Int) ≤ (N : Int) := by omega
  have u2 : (N : Int) + 2 ≤ (N : Int) + 2 := by omega
  go_wp2_with fail
  go_loopw [7] (fun v wr => ∃ i : Nat, i ≤ 2 ∧ v = .int .i64 i ∧ wr = w1) (fun u _ => 2 - (intOf u).toNat)
  case atStart => exact ⟨0, by omega, rfl, rfl⟩
  case round =>
    obtain ⟨i, hi, rfl, hw⟩ := hrel
    subst hw
    by_cases hlt : i < 2
    · have x1 := fun w' => Own.idx had (P := Try.prog) (t := 46) (m := 1) (N + 2) (N + 2) (by kernel_rfl) (by kernel_rfl) (k := N + i) (by omega) ((N : Int) + (i : Int)) (by omega) w'
      simp only [Nat.mul_one] at x1
      obtain ⟨c0, f0⟩ := srows_at HO1.out (N + i) (by rw [List.length_append, roomS_len 2 (by omega), ← HN.out]; omega)
      have e0 : (l ++ roomS 2).getD (N + i) [] = foS := by
        rw [List.getD_eq_getElem?_getD, HN.out, List.getElem?_append_right (by omega), Nat.add_sub_cancel_left]
        match i, hlt with
        | 0, _ => rfl
        | 1, _ => rfl
      rw [e0] at c0
      have q0 : ((str foS).toList == [102, 111, 114, 101, 105, 103, 110]) = true := by rw [str_toList]; rfl
      have q1 : ((str foS).toList != [102, 111, 114, 101, 105, 103, 110]) = false := by rw [str_toList]; rfl
      clear e0
      go_wp2_with fail
      go_roundw
      case rel => exact ⟨i + 1, by omega, by go_num, by first | rfl | trivial⟩
      case measure => simp [intOf]; omega
    · go_wp2_with fail
      go_ret
      exact ⟨rfl, HB1.out⟩

set_option maxRecDepth 100000 in
set_option maxHeartbeats 4000000 in
theorem joins_any (l : List (List UInt8)) (ad0 : Option Addr) (N cap0 : Nat) (w : World) (hL : Lies w ad0 N 1 (fun i => [.string (str (l.getD i []))])) (hN : N = l.length) (hl : ∀ v, v ∈ l → v.length ≤ 34359738368) (hb : N ≤ 1099511627776) :
    Calls Try.prog 9 #[.slice ad0 N cap0] w fun e w' => e = .returned (.bool true) ∧ Below w.heap.size w w' := by
  have HN : Hid (N = l.length) := hN
  have HL : Hid (Lies w ad0 N 1 (fun i => [.string (str (l.getD i []))])) := hL
  have HLE : Hid (∀ v, v ∈ l → v.length ≤ 34359738368) := hl
  clear hL hN hl
  go_enter Try.func9, Try.ntmps9
  go_wp2_with fail
  refine (handedList_any l ad0 N cap0 _ HL.out HN.out hb).mono ?_
  rintro e w1 ⟨g, ad, rfl, had, hg, ho, hb1⟩
  have HAD : Hid (ad = some ⟨g, 0, none⟩) := had
  have HO : Hid (Own w1 g 9 1 (srows (l ++ roomS 2))) := ho
  have HB1 : Hid (Below w.heap.size w w1) := hb1
  have HL2 : Hid (Lies w1 ad N 1 (fun i => [.string (str (l.getD i []))])) := srows_lies ho had (by rw [List.length_append, HN.out]; omega) (fun i hi => getD_room _ _ _ (by rw [← HN.out]; exact hi))
  clear had ho hb1
  go_wp2_with fail
  refine (pjoin_any l ad N (N + 2) _ HL2.out HN.out HLE.out hb).mono ?_
  rintro e w2 ⟨rfl, hb2⟩
  have HB2 : Hid (Below w1.heap.size w1 w2) := hb2
  obtain ⟨jb, hjb⟩ : ∃ x, x = (joinRd l).b := ⟨_, rfl⟩
  obtain ⟨je, hje⟩ : ∃ x, x = (joinRd l).err := ⟨_, rfl⟩
  obtain ⟨ja, hja⟩ : ∃ x, x = (joinRd l).at_ := ⟨_, rfl⟩
  have HJ : Hid (jnV (joinRd l) = .tuple #[.string (str jb), .int .i64 je, .int .i64 (ja : Int)]) := by show _ = _; rw [hjb, hje, hja]
  clear hjb hje hja hb2
  rw [HJ.out]
  go_wp2_with fail
  refine (rjoin_any l ad0 N cap0 _ ((HL.out.below HB1.out).below HB2.out) HN.out HLE.out hb).mono ?_
  rintro e w3 ⟨rfl, hb3⟩
  have HB3 : Hid (Below w1.heap.size w1 w3) := HB2.out.trans (hb3.mono HB2.out.size)
  have HO3 : Hid (Own w3 g 9 1 (srows (l ++ roomS 2))) := ⟨HO.out.even, by rw [HB3.out.block g (Array.getElem?_eq_some_iff.1 HO.out.block).1]; exact HO.out.block⟩
  rw [HJ.out]
  clear hb3
  go_wp2_with fail
  refine (stillList_any l ad0 N cap0 g ad _ ((HL.out.below HB1.out).below HB3.out) HN.out hb HAD HO3.out).mono ?_
  rintro e w4 ⟨rfl, hb4⟩
  have HB4 : Hid (Below w1.heap.size w1 w4) := HB3.out.trans (hb4.mono HB3.out.size)
  clear hb4
  have q0 : ((str jb).toList == (str jb).toList) = true := by simp
  go_wp2_with fail
  go_ret
  exact ⟨by simp, HB1.out.trans (HB4.out.mono HB1.out.size)⟩
end Go.Proofs.Ytdjpkgaicmklmaa

