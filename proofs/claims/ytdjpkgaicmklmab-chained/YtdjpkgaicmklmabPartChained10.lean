/- Texts of the proof, one behind the other; what each holds is said at its head. -/
import Derived.Test.YtdjpkgaicmklmabPartChained9
import Derived.Test.YtdjpkgaicmklmabPartChained8
import Derived.Test.YtdjpkgaicmklmabPartChained2
/- Arrays as variables of the call's own; the program's Join: a number that is there twice, the parts laid in order: walked. -/
namespace Go.Proofs.Ytdjpkgaicmklmab
open Go.RowKit

section
variable {P : Program} {w : World} {ops : Array Oper} {rest : List Oper} {o : Oper} {a : Act} {Q : Exit → Act → World → Prop}

/-- 'T{}', T an array. -/
theorem wpList_bzero (hgd : o.guard = none) (t e n : Nat) (ho : o.op = .build t #[]) (hu : P.underlying t = some (.array n e)) (cs : List Value) (he : (P.info? e).isSome) (hz : (P.info? t).map (·.zero) = some (some (.agg cs.toArray)))
    (h : wpList P ops Q rest (a.put o.dst (.agg cs.toArray)) w) : wpList P ops Q (o :: rest) a w := by
  obtain ⟨i, hi, hzz⟩ := Option.map_eq_some_iff.1 hz
  obtain ⟨j, hj⟩ := Option.isSome_iff_exists.1 he
  refine wpList_plain hgd fun K hK => ?_
  have hrun : (Instr.build t #[]).run P w = .ok (.agg cs.toArray) w := by
    simp [Instr.build, zeroValue, typeInfo, hi, hzz, run_underlying hu, sizeOf, hj, Instr.fill, Value.cells]
  unfold Oper.wp
  simp [execOp, ho, hrun, Result.andThen]
  exact hK _ _ h

/-- 'var x T', T an array. -/
theorem wpList_bvar (hgd : o.guard = none) (t : Nat) (ho : o.op = .alloc t) (cs : List Value) (hz : (P.info? t).map (·.zero) = some (some (.agg cs.toArray)))
    (h : ∀ g w', g = w.heap.size → w'.heap.size = g + 1 → Bx w' g t cs → Below w.heap.size w w' → wpList P ops Q rest (a.put o.dst (.pointer (some ⟨g, 0, none⟩))) w') : wpList P ops Q (o :: rest) a w := by
  obtain ⟨i, hi, hzz⟩ := Option.map_eq_some_iff.1 hz
  refine wpList_bnew hgd t cs (fun w => ?_) h
  simp [execOp, ho, Instr.alloc, zeroValue, typeInfo, hi, hzz, newVar, newRow, Value.cells, Result.andThen]
end

/-- An element of such a variable. -/
theorem arr_idx {P : Program} {t e n : Nat} (hu : P.underlying t = some (.array n e)) (hs : (P.info? e).map (·.size) = some 1) (K : IntKind) (g k : Nat) (hk : k < n) (w : World) : (Instr.indexAt t (.pointer (some ⟨g, 0, none⟩)) (.int K (k : Int))).run P w = .ok (.pointer (some ⟨g, k, none⟩)) w := by
  cases hq : P.info? e with
  | none => simp [hq] at hs
  | some i =>
    have hi : i.size = 1 := by simpa [hq] using hs
    simp [Instr.indexAt, asIntOf, run_underlying hu, Instr.sureAddr, sizeOf, typeInfo, hq, hi, addr_add, hk]

/-- Which numbers there are, as cells. -/
abbrev seenC (l : List (List UInt8)) : List Value := (List.range 256).map fun k => .bool (l.any fun v => numV v == k)
set_option maxRecDepth 100000 in
theorem seenC_nil : List.replicate 256 (Value.bool false) = seenC [] := by rfl
theorem seenC_at (l : List (List UInt8)) (k : Nat) (h : k < 256) : (seenC l)[k]? = some (.bool (l.any fun v => numV v == k)) := by
  rw [List.getElem?_map, List.getElem?_range h]; rfl
theorem seenC_snoc (l : List (List UInt8)) (s : List UInt8) : (seenC l).set (numV s) (.bool true) = seenC (l ++ [s]) := by
  apply List.ext_getElem?
  intro k
  rw [List.getElem?_set]
  by_cases hk : k < 256
  · rw [seenC_at _ k hk, seenC_at _ k hk]
    by_cases e : numV s = k
    · simp [e, hk]
    · simp [e]
  · rw [List.getElem?_eq_none (by simp; omega), List.getElem?_eq_none (by simp; omega)]
    have := numV_lt s
    rw [if_neg (by omega)]

set_option maxRecDepth 100000 in
set_option maxHeartbeats 4000000 in
theorem firstTwice_any (l : List (List UInt8)) (ad0 : Option Addr) (N cap0 : Nat) (w : World) (hL : Lies w ad0 N 4 (fun i => voC (l.getD i []))) (hN : N = l.length) (hb : N ≤ 1099511627776) :
    Calls Try.prog 56 #[.slice ad0 N cap0] w fun e w' => e = .returned (.int .i64 (firstEnd (bad3 l) l.length : Nat)) ∧ Below w.heap.size w w' := by
  have HN : Hid (N = l.length) := hN
  clear hN
  obtain ⟨Z, hZ⟩ : ∃ Z, Z = List.replicate 256 (Value.bool false) := ⟨_, rfl⟩
  have HZ : Hid (Z = seenC []) := by show _ = _; rw [hZ]; exact seenC_nil
  have HI : Hid ((Try.prog.info? 114).map (·.zero) = some (some (.agg Z.toArray))) := by show _ = _; rw [hZ]; kernel_rfl
  have HL1 : Hid (Z.length = 256) := by show _ = _; rw [hZ]; simp
  have HO1 : Hid (∀ x, x ∈ Z → x.oneCell' = true) := by intro x hx; rw [hZ] at hx; rw [(List.mem_replicate.1 hx).2]; rfl
  clear hZ
  go_enter Try.func56, Try.ntmps56
  go_wp2_with (first
    | (refine wpList_bzero (by rfl) 114 4 256 (by rfl) Try.underlying114 Z (by kernel_rfl) HI.out ?_)
    | (refine wpList_bvar (by rfl) 114 (by rfl) Z HI.out ?_; intro g w1 hg hz1 hx hb1; subst hg)
    | (refine wpList_bstore (by rfl) _ _ 114 (by rfl) w.heap.size 114 (by rfl) _ Z (by rfl) hx 256 HL1.out (by kernel_rfl) HL1.out HO1.out ?_; intro w2 hx2 hu2))
  rw [HZ.out] at hx2
  have hb2 := hu2.below hb1 (by omega)
  have HG : Hid (w.heap.size ≤ w.heap.size) := Nat.le_refl _
  clear hx hb1 hu2 hz1 HZ HI HL1 HO1
  go_loopw [4] (fun u wr => ∃ (i : Nat), i ≤ N ∧ u = .int .i64 i ∧ (∀ j, j < i → bad3 l j = false) ∧ Bx wr w.heap.size 114 (seenC (l.take i)) ∧ Below w.heap.size w wr) (fun u _ => N - (intOf u).toNat)
  case atStart => exact ⟨0, by omega, rfl, by intro j hj; omega, by simpa using hx2, hb2⟩
  case round =>
    obtain ⟨i, hi, rfl, hbad, hx, hbw⟩ := hrel
    have HBAD : Hid (∀ j, j < i → bad3 l j = false) := hbad
    clear hbad
    by_cases hlt : i < N
    · obtain ⟨b, o, hbl, hix, hc⟩ := (hL.below hbw).at cap0 (P := Try.prog) (t := 88) (by kernel_rfl) (by kernel_rfl) hlt
      have c0 : wr.cell? ⟨b, o, none⟩ = some (.int .u8 (numV (l.getD i []))) := hc 0 _ (by omega) rfl
      have hil : i < l.length := by rw [← HN.out]; exact hlt
      have HB3 : Hid (bad3 l i = (l.take i).any fun v => numV v == numV (l.getD i [])) := rfl
      have HT : Hid ((seenC (l.take i)).set (numV (l.getD i [])) (.bool true) = seenC (l.take (i + 1))) := by show _ = _; rw [take_snoc l i hil]; exact seenC_snoc _ _
      have hnl := numV_lt (l.getD i [])
      have hca := (hx.cell (numV (l.getD i []))).trans (seenC_at (l.take i) _ hnl)
      rw [← HB3.out] at hca
      clear hc
      generalize numV (l.getD i []) = nv at *
      have hia := fun w' => arr_idx (P := Try.prog) (t := 114) (e := 4) (n := 256) Try.underlying114 (by kernel_rfl) .u8 w.heap.size nv hnl w'
      cases hq : bad3 l i with
      | true =>
        rw [hq] at hca
        have HF : Hid (firstEnd (bad3 l) l.length = i) := firstEnd_at hil HBAD.out hq
        clear hq
        go_wp2_with fail
        go_ret
        exact ⟨by rw [HF.out]; rfl, hbw⟩
      | false =>
        rw [hq] at hca
        have HF : Hid (bad3 l i = false) := hq
        clear hq
        go_wp2_with (refine wpList_bput (by rfl) _ _ 4 (by rfl) w.heap.size 114 nv (by rfl) _ (.bool true) (by rfl) hx (by kernel_rfl) (by simp; omega) (by rfl) (by rfl) ?_; intro w5 hx5 hu5)
        go_roundw
        case rel => exact ⟨i + 1, by omega, by go_num, fun j hj => by rcases Nat.lt_or_ge j i with h | h; (exact HBAD.out j h); (rw [show j = i by omega]; exact HF.out), by rw [← HT.out]; exact hx5, hu5.below hbw HG.out⟩
        case measure => simp [intOf]; omega
    · have hiN : i = N := by omega
      subst hiN
      have HK : Hid (firstEnd (bad3 l) l.length = i) := by show _ = _; rw [← HN.out]; exact firstEnd_none HBAD.out
      go_wp2_with fail
      go_ret
      exact ⟨by rw [HK.out]; rfl, hbw⟩

/-- The part of the volume with this number. -/
def bodyAt (l : List (List UInt8)) (k : Nat) : List UInt8 := bodyV (l.getD (atV l k) [])
theorem bodyAt_none {l : List (List UInt8)} {k : Nat} (h : ∀ v, v ∈ l → numV v ≠ k) : bodyAt l k = [] := by
  unfold bodyAt atV
  rw [List.findIdx_eq_length_of_false (by intro x hx; simpa using h x hx)]
  simp [bodyV]
theorem bodyAt_snoc {l : List (List UInt8)} {s : List UInt8} (h : ∀ v, v ∈ l → numV v ≠ numV s) (k : Nat) : bodyAt (l ++ [s]) k = if k = numV s then bodyV s else bodyAt l k := by
  unfold bodyAt atV
  rw [List.findIdx_append]
  by_cases hf : l.findIdx (fun v => numV v == k) < l.length
  · rw [if_pos hf]
    have hm := List.findIdx_getElem (w := hf) (p := fun v => numV v == k)
    have hne : k ≠ numV s := by
      intro e
      have h2 := h _ (List.getElem_mem hf)
      simp only [beq_iff_eq] at hm
      exact h2 (by rw [hm]; exact e)
    rw [if_neg hne, List.getD_eq_getElem?_getD, List.getElem?_append_left hf, ← List.getD_eq_getElem?_getD]
  · rw [if_neg hf]
    have hl : l.findIdx (fun v => numV v == k) = l.length := by have := List.findIdx_le_length (p := fun v => numV v == k) (xs := l); omega
    by_cases e : k = numV s
    · rw [if_pos e]; simp [e, List.findIdx_cons]
    · rw [if_neg e, hl]
      have : (numV s == k) = false := by rw [beq_eq_false_iff_ne]; exact fun h => e h.symm
      have e1 : (l ++ [s]).getD (List.findIdx (fun v => numV v == k) [s] + l.length) [] = [] := by
        rw [List.getD_eq_getElem?_getD, List.getElem?_eq_none (by simp [List.findIdx_cons, this]; omega)]; rfl
      have e2 : l.getD l.length [] = [] := by simp
      rw [e1, e2]
theorem bodyAt_len (l : List (List UInt8)) (k n : Nat) (h : ∀ v, v ∈ l → v.length ≤ n) : (bodyAt l k).length ≤ n := by
  unfold bodyAt
  by_cases hf : atV l k < l.length
  · have := h _ (volAt_mem hf); unfold bodyV; rw [List.length_take]; omega
  · rw [List.getD_eq_getElem?_getD, List.getElem?_eq_none (by omega)]; simp [bodyV]
abbrev partC (l : List (List UInt8)) : List Value := (List.range 256).map fun k => .string (str (bodyAt l k))
set_option maxRecDepth 100000 in
theorem partC_nil : List.replicate 256 (Value.string ⟨#[]⟩) = partC [] := by
  have e : partC [] = (List.range 256).map fun _ => Value.string ⟨#[]⟩ := by
    apply List.map_congr_left; intro k _; rw [bodyAt_none (by intro v hv; cases hv)]; rfl
  rw [e]; rfl
theorem partC_at (l : List (List UInt8)) (k : Nat) (h : k < 256) : (partC l)[k]? = some (.string (str (bodyAt l k))) := by
  rw [List.getElem?_map, List.getElem?_range h]; rfl
theorem partC_snoc {l : List (List UInt8)} {s : List UInt8} (h : ∀ v, v ∈ l → numV v ≠ numV s) : (partC l).set (numV s) (.string (str (bodyV s))) = partC (l ++ [s]) := by
  apply List.ext_getElem?
  intro k
  rw [List.getElem?_set]
  by_cases hk : k < 256
  · rw [partC_at _ k hk, partC_at _ k hk, bodyAt_snoc h]
    by_cases e : numV s = k
    · rw [if_pos e, if_pos (by simp; omega), if_pos e.symm]
    · rw [if_neg e, if_neg (fun h => e h.symm)]
  · rw [List.getElem?_eq_none (by simp; omega), List.getElem?_eq_none (by simp; omega)]
    have := numV_lt s
    rw [if_neg (by omega)]
theorem allV_eq (l : List (List UInt8)) (k : Nat) : allV l k = (List.range k).flatMap (bodyAt l) := rfl
theorem allV_succ (l : List (List UInt8)) (k : Nat) : allV l (k + 1) = allV l k ++ bodyAt l k := by
  rw [allV_eq, allV_eq, List.range_succ, List.flatMap_append]; simp
theorem allV_len (l : List (List UInt8)) (n : Nat) (h : ∀ v, v ∈ l → v.length ≤ n) : ∀ k, (allV l k).length ≤ k * n
  | 0 => by simp [allV]
  | k + 1 => by
    rw [allV_succ, List.length_append, Nat.add_mul]
    have := allV_len l n h k
    have := bodyAt_len l k n h
    omega
theorem allV_more {l : List (List UInt8)} {n : Nat} (h : ∀ v, v ∈ l → numV v < n) : ∀ k, allV l (n + k) = allV l n
  | 0 => rfl
  | k + 1 => by
    rw [show n + (k + 1) = (n + k) + 1 by omega, allV_succ, allV_more h k, bodyAt_none (by intro v hv; have := h v hv; omega), List.append_nil]

set_option maxRecDepth 100000 in
set_option maxHeartbeats 4000000 in
theorem joined_any (l : List (List UInt8)) (ad0 : Option Addr) (N cap0 : Nat) (w : World) (hL : Lies w ad0 N 4 (fun i => voC (l.getD i []))) (hN : N = l.length) (hb : N ≤ 1099511627776) (hnd : ∀ i, i < l.length → bad3 l i = false) (hl : ∀ v, v ∈ l → v.length ≤ 34359738368) :
    Calls Try.prog 57 #[.slice ad0 N cap0] w fun e w' => e = .returned (.string (str (allV l 256))) ∧ Below w.heap.size w w' := by
  have HN : Hid (N = l.length) := hN
  have HND : Hid (∀ i, i < l.length → bad3 l i = false) := hnd
  have HLE : Hid (∀ v, v ∈ l → v.length ≤ 34359738368) := hl
  clear hN hnd hl
  obtain ⟨Z, hZ⟩ : ∃ Z, Z = List.replicate 256 (Value.string ⟨#[]⟩) := ⟨_, rfl⟩
  have HZ : Hid (Z = partC []) := by show _ = _; rw [hZ]; exact partC_nil
  have HI : Hid ((Try.prog.info? 115).map (·.zero) = some (some (.agg Z.toArray))) := by show _ = _; rw [hZ]; kernel_rfl
  have HL1 : Hid (Z.length = 256) := by show _ = _; rw [hZ]; simp
  have HO1 : Hid (∀ x, x ∈ Z → x.oneCell' = true) := by intro x hx; rw [hZ] at hx; rw [(List.mem_replicate.1 hx).2]; rfl
  clear hZ
  go_enter Try.func57, Try.ntmps57
  go_wp2_with (first
    | (refine wpList_bzero (by rfl) 115 9 256 (by rfl) Try.underlying115 Z (by kernel_rfl) HI.out ?_)
    | (refine wpList_bvar (by rfl) 115 (by rfl) Z HI.out ?_; intro g w1 hg hz1 hx hb1; subst hg)
    | (refine wpList_bstore (by rfl) _ _ 115 (by rfl) w.heap.size 115 (by rfl) _ Z (by rfl) hx 256 HL1.out (by kernel_rfl) HL1.out HO1.out ?_; intro w2 hx2 hu2))
  rw [HZ.out] at hx2
  have hb2 := hu2.below hb1 (by omega)
  have HG : Hid (w.heap.size ≤ w.heap.size) := Nat.le_refl _
  clear hx hb1 hu2 hz1 HZ HI HL1 HO1
  go_loopw [4] (fun u wr => ∃ (i : Nat), i ≤ N ∧ u = .int .i64 i ∧ Bx wr w.heap.size 115 (partC (l.take i)) ∧ Below w.heap.size w wr) (fun u _ => N - (intOf u).toNat)
  case atStart => exact ⟨0, by omega, rfl, by simpa using hx2, hb2⟩
  case round =>
    obtain ⟨i, hi, rfl, hx, hbw⟩ := hrel
    by_cases hlt : i < N
    · obtain ⟨b, o, hbl, hix, hc⟩ := (hL.below hbw).at cap0 (P := Try.prog) (t := 88) (by kernel_rfl) (by kernel_rfl) hlt
      have c0 : wr.cell? ⟨b, o, none⟩ = some (.int .u8 (numV (l.getD i []))) := hc 0 _ (by omega) rfl
      have c3 : wr.cell? ⟨b, o + 3, none⟩ = some (.string (str (bodyV (l.getD i [])))) := hc 3 _ (by omega) rfl
      have hil : i < l.length := by rw [← HN.out]; exact hlt
      have HT : Hid ((partC (l.take i)).set (numV (l.getD i [])) (.string (str (bodyV (l.getD i [])))) = partC (l.take (i + 1))) := by
        show _ = _
        rw [take_snoc l i hil]
        refine partC_snoc fun v hv e => ?_
        have := HND.out i hil
        simp only [bad3, List.any_eq_false, beq_iff_eq] at this
        exact this v hv e
      have hnl := numV_lt (l.getD i [])
      have hca := (hx.cell (numV (l.getD i []))).trans (partC_at (l.take i) _ hnl)
      have hfr := hx.frozen (numV (l.getD i []))
      clear hc
      generalize numV (l.getD i []) = nv at *
      generalize bodyV (l.getD i []) = bo at *
      have hia := fun w' => arr_idx (P := Try.prog) (t := 115) (e := 9) (n := 256) Try.underlying115 (by kernel_rfl) .u8 w.heap.size nv hnl w'
      go_wp2_with fail
      go_region_law (fail)
      all_goals
        go_wp2_with fail
        go_roundw
        case rel => exact ⟨i + 1, by omega, by go_num, by rw [← HT.out]; exact (hx.drewN 1).setCell _ _, ((Upd.refl w.heap.size wr).drew.setCell _ rfl _).below hbw HG.out⟩
        case measure => simp [intOf]; omega
    · have hiN : i = N := by omega
      subst hiN
      have HF : Hid (Bx wr w.heap.size 115 (partC l)) := by
        have : l.take i = l := by rw [HN.out]; exact List.take_length
        rw [this] at hx; exact hx
      clear hx
      generalize hWW : wr = W at *
      clear hWW
      go_wp2_with fail
      go_loopw [5, 6] (fun v u wr => ∃ (k : Nat) (ad : Option Addr) (n cap : Nat), k ≤ 256 ∧ u = .int .i64 k ∧ v = .slice ad n cap ∧ n = (allV l k).length ∧ n ≤ 8796093022208 ∧ Vec wr W.heap.size 5 1 ad n cap (u8s (allV l k)) ∧ Below W.heap.size W wr) (fun _ u _ => 256 - (intOf u).toNat)
      case atStart => exact ⟨0, _, 0, _, by omega, rfl, rfl, rfl, by omega, Vec.lit W W.heap.size 5 1 0 [] (Nat.le_refl _) (by omega) rfl, (Below.refl _ _).alloc (Nat.le_refl _) _⟩
      case round =>
        obtain ⟨k, ad, n, cap, hk, rfl, rfl, hn, hn2, hv, hbk⟩ := hrel
        have HNN : Hid (n = (allV l k).length) := hn
        clear hn
        by_cases hlt2 : k < 256
        · have hia := fun w' => arr_idx (P := Try.prog) (t := 115) (e := 9) (n := 256) Try.underlying115 (by kernel_rfl) .i64 w.heap.size k hlt2 w'
          have hca := ((HF.out.below hbk HF.out.lt).cell k).trans (partC_at l k hlt2)
          have hlk := bodyAt_len l k _ HLE.out
          have HA : Hid (allV l (k + 1) = allV l k ++ bodyAt l k) := allV_succ l k
          have HA2 : Hid ((allV l (k + 1)).length ≤ 8796093022208) := by
            have h1 := allV_len l _ HLE.out (k + 1)
            have h2 : (k + 1) * 34359738368 ≤ 256 * 34359738368 := Nat.mul_le_mul_right _ (by omega)
            show _ ≤ _; omega
          have hbz := hbk.size
          go_wp2_with (at_builtin; refine wpList_pushStr (by rfl) _ _ 75 9 (by rfl) W.heap.size 5 Try.underlying75 Try.underlying9 (by kernel_rfl) ad n cap (allV l k) (bodyAt l k) (by rfl) hv (by rfl) (by omega) hbz _ rfl ?_; intro ad' cap' w' hv' hb' hs')
          go_roundw
          case rel => exact ⟨k + 1, ad', n + (bodyAt l k).length, cap', by omega, by go_num, rfl, by rw [HA.out, List.length_append, HNN.out], by have := HA2.out; rw [HA.out, List.length_append, ← HNN.out] at this; exact this, by rw [HA.out]; exact hv', hbk.trans hb'⟩
          case measure => simp [intOf]; omega
        · have hk256 : k = 256 := by omega
          subst hk256
          go_wp2_with (refine wpList_toStr (by rfl) 75 9 5 _ (by rfl) Try.underlying75 Try.underlying5 Try.underlying9 W.heap.size n cap ad (by rfl) (allV l 256) hv ?_)
          go_ret
          exact ⟨rfl, hbw.trans (hbk.mono hbw.size)⟩
end Go.Proofs.Ytdjpkgaicmklmab

/- The program's Join, walked. -/
namespace Go.Proofs.Ytdjpkgaicmklmab
open Go.RowKit

/-- What Join answers, as values. -/
abbrev jnV (j : Jn) : Value := .tuple #[.string (str j.b), .int .i64 j.err, .int .i64 (j.at_ : Int)]
theorem joinRd_bad1 {l : List (List UInt8)} {i : Nat} (h : firstOf (bad1 l) l.length = some i) : joinRd l = ⟨[], 13, i⟩ := by unfold joinRd; rw [h]
theorem joinRd_bad2 {l : List (List UInt8)} {i : Nat} (h1 : firstOf (bad1 l) l.length = none) (h : firstOf (bad2 l) l.length = some i) : joinRd l = ⟨[], 14, i⟩ := by unfold joinRd; rw [h1, h]
theorem joinRd_bad3 {l : List (List UInt8)} {i : Nat} (h1 : firstOf (bad1 l) l.length = none) (h2 : firstOf (bad2 l) l.length = none) (h : firstOf (bad3 l) l.length = some i) : joinRd l = ⟨[], 15, i⟩ := by unfold joinRd; rw [h1, h2, h]
theorem joinRd_miss {l : List (List UInt8)} (h1 : firstOf (bad1 l) l.length = none) (h2 : firstOf (bad2 l) l.length = none) (h3 : firstOf (bad3 l) l.length = none) (h : l.length = 0 ∨ l.length ≠ cntV (l.getD 0 [])) : joinRd l = ⟨[], 16, 0⟩ := by
  unfold joinRd; rw [h1, h2, h3]; simp only; rw [if_pos h]
theorem joinRd_sum {l : List (List UInt8)} (h1 : firstOf (bad1 l) l.length = none) (h2 : firstOf (bad2 l) l.length = none) (h3 : firstOf (bad3 l) l.length = none) (h : ¬ (l.length = 0 ∨ l.length ≠ cntV (l.getD 0 [])))
    (hs : fourI (crc pSum (allV l l.length)) ≠ sumV (l.getD 0 [])) : joinRd l = ⟨[], 8, 0⟩ := by
  unfold joinRd; rw [h1, h2, h3]; simp only; rw [if_neg h, if_pos hs]
theorem joinRd_ok {l : List (List UInt8)} (h1 : firstOf (bad1 l) l.length = none) (h2 : firstOf (bad2 l) l.length = none) (h3 : firstOf (bad3 l) l.length = none) (h : ¬ (l.length = 0 ∨ l.length ≠ cntV (l.getD 0 [])))
    (hs : fourI (crc pSum (allV l l.length)) = sumV (l.getD 0 [])) : joinRd l = ⟨allV l l.length, 0, 0⟩ := by
  unfold joinRd; rw [h1, h2, h3]; simp only; rw [if_neg h, if_neg (by simp [hs])]
theorem firstEnd_lt {f : Nat → Bool} {n i : Nat} (h : firstOf f n = some i) : firstEnd f n = i ∧ i < n := ⟨by unfold firstEnd; rw [h]; rfl, (firstOf_some.mp h).2.1⟩
theorem firstEnd_eq {f : Nat → Bool} {n : Nat} (h : firstOf f n = none) : firstEnd f n = n := by unfold firstEnd; rw [h]; rfl
theorem ok_of_none {l : List (List UInt8)} (h : firstOf (bad1 l) l.length = none) (i : Nat) (hi : i < l.length) : volOk (l.getD i []) = true := by
  have := firstOf_none.mp h i hi
  simpa [bad1] using this
theorem cnt_all {l : List (List UInt8)} (h1 : firstOf (bad1 l) l.length = none) (h2 : firstOf (bad2 l) l.length = none) (hc : l.length = cntV (l.getD 0 [])) : ∀ v, v ∈ l → numV v < l.length := by
  intro v hv
  obtain ⟨i, hi, rfl⟩ := List.mem_iff_getElem.mp hv
  have a := ok_of_none h1 i hi
  have b := firstOf_none.mp h2 i hi
  simp only [bad2, bne_eq_false_iff_eq] at b
  have hz : ∀ v : List UInt8, cntV v = ((idV v).getD 0 0).toNat := by intro v; unfold cntV idV; simp [List.getElem?_drop]
  have c : cntV (l.getD i []) = cntV (l.getD 0 []) := by rw [hz, hz, b]
  have e : l.getD i [] = l[i] := by rw [List.getD_eq_getElem?_getD, List.getElem?_eq_getElem hi]; rfl
  rw [e] at a c
  simp only [volOk, Bool.and_eq_true, decide_eq_true_eq] at a
  omega

theorem below_drew1 {w w' : World} (hb : Below w.drew.heap.size w.drew w') : Below w.heap.size w w' := (Below.drew (Below.refl w.heap.size w)).trans hb

set_option maxRecDepth 100000 in
set_option maxHeartbeats 4000000 in
theorem vjoin_any (l : List (List UInt8)) (ad0 : Option Addr) (N cap0 : Nat) (w : World) (hL : Lies w ad0 N 1 (fun i => [.string (str (l.getD i []))])) (hN : N = l.length) (hl : ∀ v, v ∈ l → v.length ≤ 34359738368) (hb : N ≤ 1099511627776) :
    Calls Try.prog 34 #[.slice ad0 N cap0] w fun e w' => e = .returned (jnV (joinRd l)) ∧ Below w.heap.size w w' := by
  have HLE : Hid (∀ v, v ∈ l → v.length ≤ 34359738368) := hl
  have HN : Hid (N = l.length) := hN
  have HL : Hid (Lies w ad0 N 1 (fun i => [.string (str (l.getD i []))])) := hL
  clear hl hN hL
  go_enter Try.func34, Try.ntmps34
  go_wp2_with fail
  refine (volumesOf_any l ad0 N cap0 _ HL.out HN.out (fun v hv => Nat.le_trans (HLE.out v hv) (by omega)) hb).mono ?_
  rintro e w1 ⟨ad, cap, k, rfl, hk, hv1, hb1⟩
  have HV1 : Hid (Vec w1 w.heap.size 87 4 ad k cap (vcells (l.take k))) := hv1
  have HB1 : Hid (Below w.heap.size w w1) := hb1
  clear hv1 hb1
  cases h1 : firstOf (bad1 l) l.length with
  | some i =>
    have hki : k = i := by rw [hk]; unfold voN; rw [h1]; rfl
    have hlt : i < N := by rw [HN.out]; exact (firstOf_some.mp h1).2.1
    subst hki
    have HR : Hid (joinRd l = ⟨[], 13, k⟩) := joinRd_bad1 h1
    clear h1 hk
    go_wp2_with fail
    go_ret3
    exact ⟨by rw [HR.out]; rfl, HB1.out⟩
  | none =>
    have hkN : k = N := by rw [hk, HN.out]; unfold voN; rw [h1]; rfl
    subst hkN
    have HV2 : Hid (Lies w1 ad k 4 (fun i => voC (l.getD i []))) := by
      have := HV1.out
      rw [show l.take k = l by rw [HN.out]; exact List.take_length] at this
      exact vcells_lies this HN.out
    have H1 : Hid (firstOf (bad1 l) l.length = none) := h1
    clear h1 hk HV1
    go_wp2_with fail
    refine (firstMixed_any l ad k cap _ HV2.out HN.out (ok_of_none H1.out) hb).mono ?_
    rintro e w2 ⟨rfl, hb2⟩
    have HB2 : Hid (Below w1.heap.size w1 w2) := hb2
    clear hb2
    cases h2 : firstOf (bad2 l) l.length with
    | some i =>
      obtain ⟨e2, hlt⟩ := firstEnd_lt h2
      have HR : Hid (joinRd l = ⟨[], 14, i⟩) := joinRd_bad2 H1.out h2
      rw [← HN.out] at hlt
      rw [e2]
      clear h2 e2
      go_wp2_with fail
      go_ret3
      exact ⟨by rw [HR.out]; rfl, HB1.out.trans (HB2.out.mono HB1.out.size)⟩
    | none =>
      have e2 := firstEnd_eq h2
      rw [← HN.out] at e2
      have H2 : Hid (firstOf (bad2 l) l.length = none) := h2
      rw [← HN.out, e2]
      clear h2 e2
      go_wp2_with fail
      refine (firstTwice_any l ad k cap _ (HV2.out.below HB2.out) HN.out hb).mono ?_
      rintro e w3 ⟨rfl, hb3⟩
      have HB3 : Hid (Below w1.heap.size w1 w3) := HB2.out.trans (hb3.mono HB2.out.size)
      clear hb3
      cases h3 : firstOf (bad3 l) l.length with
      | some i =>
        obtain ⟨e3, hlt⟩ := firstEnd_lt h3
        have HR : Hid (joinRd l = ⟨[], 15, i⟩) := joinRd_bad3 H1.out H2.out h3
        rw [← HN.out] at hlt
        rw [e3]
        clear h3 e3
        go_wp2_with fail
        go_ret3
        exact ⟨by rw [HR.out]; rfl, HB1.out.trans (HB3.out.mono HB1.out.size)⟩
      | none =>
        have e3 := firstEnd_eq h3
        rw [← HN.out] at e3
        have H3 : Hid (firstOf (bad3 l) l.length = none) := h3
        rw [← HN.out, e3]
        clear h3 e3
        by_cases h0 : k = 0
        · have HR : Hid (joinRd l = ⟨[], 16, 0⟩) := joinRd_miss H1.out H2.out H3.out (Or.inl (by rw [← HN.out]; exact h0))
          subst h0
          go_wp2_with fail
          go_ret3
          exact ⟨by rw [HR.out]; rfl, HB1.out.trans (HB3.out.mono HB1.out.size)⟩
        · have hk0 : 0 < k := by omega
          obtain ⟨b', o', hbl', hix', hd⟩ := (HV2.out.below HB3.out).at cap (P := Try.prog) (t := 88) (by kernel_rfl) (by kernel_rfl) (k := 0) hk0
          have d1 : w3.cell? ⟨b', o' + 1, none⟩ = some (.int .u8 (cntV (l.getD 0 []))) := hd 1 _ (by omega) rfl
          have d2 : w3.cell? ⟨b', o' + 2, none⟩ = some (.string (str (sumV (l.getD 0 [])))) := hd 2 _ (by omega) rfl
          have hix0 : ∀ w', (Instr.indexAt 88 (.slice ad k cap) (.int .i64 0)).run Try.prog w' = .ok (.pointer (some ⟨b', o', none⟩)) w' := hix'
          have hcl := cntV_lt (l.getD 0 [])
          obtain ⟨c, hc⟩ : ∃ c, c = cntV (l.getD 0 []) := ⟨_, rfl⟩
          have HC : Hid (cntV (l.getD 0 []) = c) := hc.symm
          obtain ⟨s0, hs0⟩ : ∃ c, c = sumV (l.getD 0 []) := ⟨_, rfl⟩
          have HS0 : Hid (sumV (l.getD 0 []) = s0) := hs0.symm
          rw [← hc] at d1 hcl
          rw [← hs0] at d2
          clear hd hix' hc hs0
          have wc : wrap64 (c : Int) = (c : Int) := by unfold wrap64; omega
          have q0 : ((k : Int) == 0) = false := by rw [beq_eq_false_iff_ne]; omega
          by_cases hcc : k = c
          · have q1 : ((k : Int) != (c : Int)) = false := by rw [hcc]; simp
            have HOK : Hid (¬ (l.length = 0 ∨ l.length ≠ cntV (l.getD 0 []))) := by show ¬ _; rw [← HN.out, HC.out]; omega
            have HA : Hid (allV l 256 = allV l l.length) := by
              have := allV_more (cnt_all H1.out H2.out (by rw [← HN.out, HC.out]; exact hcc)) (256 - l.length)
              rw [show l.length + (256 - l.length) = 256 by rw [← HN.out]; omega] at this
              exact this
            clear hcc
            go_wp2_with fail
            refine (joined_any l ad k cap _ (HV2.out.below HB3.out) HN.out hb (firstOf_none.mp H3.out) HLE.out).mono ?_
            rintro e w4 ⟨rfl, hb4⟩
            rw [HA.out]
            have hal : (allV l l.length).length ≤ 8796093022208 := by
              have h1 := allV_len l _ HLE.out 256
              rw [HA.out] at h1; omega
            replace d1 := ((hb4.cell (p := ⟨b', o' + 1, none⟩) hbl')).trans d1
            replace d2 := ((hb4.cell (p := ⟨b', o' + 2, none⟩) hbl')).trans d2
            have HB4 : Hid (Below w1.heap.size w1 w4) := HB3.out.trans (hb4.mono HB3.out.size)
            have HBL : Hid (b' < w4.heap.size) := Nat.lt_of_lt_of_le hbl' hb4.size
            have HRS := joinRd_sum H1.out H2.out H3.out HOK.out
            have HRO := joinRd_ok H1.out H2.out H3.out HOK.out
            rw [HS0.out] at HRS HRO
            clear hb4 HA HOK wc
            generalize allV l l.length = A at *
            go_wp2_with fail
            refine (sum_any A _ (by omega)).mono ?_
            rintro e w5 ⟨rfl, hw5⟩
            subst hw5
            obtain ⟨c1, c2⟩ := crc_le pSum (by decide) A
            by_cases hq : fourI (crc pSum A) = s0
            · have hqb : ((str s0).toList == (str (fourI (crc pSum A))).toList) = true := by rw [str_beq, hq]; simp
              have HR : Hid (joinRd l = ⟨A, 0, 0⟩) := HRO hq
              clear HRS HRO hq
              go_wp2_with fail
              go_region_law (go_simp; go_at_call 50; refine (fourBytes_any _ _ c1 c2).mono ?_; rintro e w' ⟨rfl, hb'⟩; dsimp only; have d3 : w'.cell? ⟨b', o' + 2, none⟩ = some (.string (str s0)) := (hb'.cell (p := ⟨b', o' + 2, none⟩) HBL.out).trans d2)
              all_goals
                go_wp2_with fail
                go_ret3
                exact ⟨by rw [HR.out]; rfl, HB1.out.trans ((HB4.out.trans ((below_drew1 hb').mono HB4.out.size)).mono HB1.out.size)⟩
            · have hqb : ((str s0).toList == (str (fourI (crc pSum A))).toList) = false := by rw [str_beq, beq_eq_false_iff_ne]; exact fun e => hq e.symm
              have HR : Hid (joinRd l = ⟨[], 8, 0⟩) := HRS hq
              clear HRS HRO hq
              go_wp2_with fail
              go_region_law (go_simp; go_at_call 50; refine (fourBytes_any _ _ c1 c2).mono ?_; rintro e w' ⟨rfl, hb'⟩; dsimp only; have d3 : w'.cell? ⟨b', o' + 2, none⟩ = some (.string (str s0)) := (hb'.cell (p := ⟨b', o' + 2, none⟩) HBL.out).trans d2)
              all_goals
                go_wp2_with fail
                go_ret3
                exact ⟨by rw [HR.out]; rfl, HB1.out.trans ((HB4.out.trans ((below_drew1 hb').mono HB4.out.size)).mono HB1.out.size)⟩
          · have q1 : ((k : Int) != (c : Int)) = true := by rw [bne_iff_ne]; omega
            have HR : Hid (joinRd l = ⟨[], 16, 0⟩) := joinRd_miss H1.out H2.out H3.out (Or.inr (by rw [← HN.out, HC.out]; exact hcc))
            go_wp2_with fail
            go_ret3
            exact ⟨by rw [HR.out]; rfl, HB1.out.trans (HB3.out.mono HB1.out.size)⟩

end Go.Proofs.Ytdjpkgaicmklmab

/- parcel.Join of the program, walked. -/
namespace Go.Proofs.Ytdjpkgaicmklmab
open Go.RowKit

set_option maxRecDepth 100000 in
set_option maxHeartbeats 4000000 in
theorem pjoin_any (l : List (List UInt8)) (ad0 : Option Addr) (N cap0 : Nat) (w : World) (hL : Lies w ad0 N 1 (fun i => [.string (str (l.getD i []))])) (hN : N = l.length) (hl : ∀ v, v ∈ l → v.length ≤ 34359738368) (hb : N ≤ 1099511627776) :
    Calls Try.prog 13 #[.slice ad0 N cap0] w fun e w' => e = .returned (jnV (joinRd l)) ∧ Below w.heap.size w w' := by
  have H := vjoin_any l ad0 N cap0 w hL hN hl hb
  clear hL hN hl hb
  go_enter Try.func13, Try.ntmps13
  go_wp2_with fail
  refine H.mono ?_
  rintro e w' ⟨rfl, h⟩
  clear H
  obtain ⟨jb, hjb⟩ : ∃ x, x = (joinRd l).b := ⟨_, rfl⟩
  obtain ⟨je, hje⟩ : ∃ x, x = (joinRd l).err := ⟨_, rfl⟩
  obtain ⟨ja, hja⟩ : ∃ x, x = (joinRd l).at_ := ⟨_, rfl⟩
  have HJ : Hid (jnV (joinRd l) = .tuple #[.string (str jb), .int .i64 je, .int .i64 (ja : Int)]) := by show _ = _; rw [hjb, hje, hja]
  clear hjb hje hja
  rw [HJ.out]
  go_wp2_with fail
  go_ret3
  exact ⟨by rw [HJ.out]; rfl, h⟩
end Go.Proofs.Ytdjpkgaicmklmab

/- Missing: called with any bytes and numbers, it answers true. -/
namespace Go.Proofs.Ytdjpkgaicmklmab
open Go.RowKit

theorem vols_short {m : Nat} {b v : List UInt8} (h : v ∈ volsB m b) : v.length ≤ m + 14 := by
  obtain ⟨i, _, rfl⟩ := vols_mem h
  rw [volB_len]; unfold partB; simp; omega
/-- The room of the volumes. -/
def roomN (size : Int) : Nat := (volN size - 14).toNat
theorem roomN_range (size : Int) : 26 ≤ roomN size ∧ roomN size ≤ 3986 ∧ (roomN size : Int) + 14 = volN size := by
  have := volN_range size; unfold roomN; omega
theorem split_ok {b : List UInt8} (size : Int) (hb : b.length ≤ 6000) : splitL b (volN size) = volsB (roomN size) b ∧ splitE b (volN size) = 0 := by
  have h := volN_range size
  have ok : splitOk b (volN size) := ⟨h.1, h.2, hb⟩
  exact ⟨by unfold splitL; rw [if_pos ok]; rfl, by unfold splitE; rw [if_pos ok]⟩
theorem split_no {b : List UInt8} (size : Int) (hb : 6000 < b.length) : splitL b (volN size) = [] ∧ splitE b (volN size) = 12 := by
  have ok : ¬ splitOk b (volN size) := fun h => by have := h.2.2; omega
  exact ⟨by unfold splitL; rw [if_neg ok], by unfold splitE; rw [if_neg ok]⟩
theorem range_strs (l : List (List UInt8)) (k n : Nat) (h : k + n ≤ l.length) : ((List.range n).map fun i => [Value.string (str (l.getD (k + i) []))]).flatten = strs ((l.drop k).take n) := by
  rw [← strs_flat]
  congr 1
  apply List.ext_getElem?
  intro i
  by_cases hi : i < n
  · have : k + i < l.length := by omega
    simp [hi, this, List.getElem?_take_of_lt, List.getElem?_drop]
  · simp [hi]; omega
theorem range_strs0 (l : List (List UInt8)) (n : Nat) (h : n ≤ l.length) : ((List.range n).map fun i => [Value.string (str (l.getD i []))]).flatten = strs (l.take n) := by
  have := range_strs l 0 n (by omega)
  simp only [Nat.zero_add, List.drop_zero] at this
  exact this
theorem Lies.drop1 {w : World} {ad : Option Addr} {n : Nat} {f : Nat → List Value} (h : Lies w ad n 1 f) (cap k : Nat) (hc : n ≤ cap) : Lies w (if cap = k then ad else ad.map (·.add k)) (n - k) 1 (fun i => f (k + i)) := by
  have := h.drop cap k hc
  rw [Nat.mul_one] at this
  exact this
theorem ones_str (f : Nat → List UInt8) : ∀ i, ∀ u, u ∈ [Value.string (str (f i))] → u.oneCell' = true := by intro i u hu; simp at hu; subst hu; rfl
theorem bit_last : bitM 2147483648 0 = true := by decide

section
variable {P : Program} {w : World} {ops : Array Oper} {rest : List Oper} {o : Oper} {a : Act} {Q : Exit → Act → World → Prop}
/-- 'l[k:]': the list behind, its address a name. -/
theorem wpList_tail (hgd : o.guard = none) (t : TypeId) (x lo : Operand) (ho : o.op = .slice t x (some lo) none none) (ht : P.underlying t = some (.slice (P.elem t))) (hs : (P.info? (P.elem t)).map (·.size) = some 1)
    (ad : Option Addr) (n cap k : Nat) (K : Int) (hx : a.eval x = .slice ad n cap) (hlo : a.eval lo = .int .i64 K) (hK : K = (k : Int)) (hk : k ≤ n) (f : Nat → List Value) (hL : Lies w ad n 1 f) (hc : n ≤ cap)
    (h : ∀ ad', Lies w ad' (n - k) 1 (fun i => f (k + i)) → wpList P ops Q rest (a.put o.dst (.slice ad' (n - k) (cap - k))) w) : wpList P ops Q (o :: rest) a w := by
  subst hK
  cases hq : P.info? (P.elem t) with
  | none => simp [hq] at hs
  | some i =>
    have hi : i.size = 1 := by simpa [hq] using hs
    have hz : (sizeOf (P.elem t)).run P w = .ok 1 w := by simp [sizeOf, typeInfo, hq, hi]
    have hrun : (Instr.sliceAt t (.slice ad n cap) (some (.int .i64 (k : Int))) none none).run P w = .ok (.slice (if cap = k then ad else ad.map (·.add k)) (n - k) (cap - k)) w := by
      rw [run_sliceAt_slice w t _ _ _ _ ht, run_slice_l w t ad n cap ht .i64 (k : Int) (by omega) (by omega), hz]
      simp [sliced]
    refine wpList_plain hgd fun K hK => ?_
    unfold Oper.wp
    simp [execOp, ho, hx, hlo, hrun, Result.andThen]
    exact hK _ _ (h _ (hL.drop1 cap k hc))
end

set_option maxRecDepth 100000 in
set_option maxHeartbeats 4000000 in
theorem missing_any (b : List UInt8) (size which at_ : Int) (w : World) (hb : b.length ≤ 9223372036854775807) (hs : I64 size) (hw : I64 which) (ha : I64 at_) :
    Calls Try.prog 5 #[.string (str b), .int .i64 size, .int .i64 which, .int .i64 at_] w fun e w' => e = .returned (.bool true) ∧ Below w.heap.size w w' := by
  have HS : Hid (I64 size) := hs
  have HW : Hid (I64 which) := hw
  have HA : Hid (I64 at_) := ha
  have hz := str_size b
  have HZ : Hid ((str b).size = b.length) := hz
  have hbb : (str b).size ≤ 9223372036854775807 := by omega
  have HBB : Hid (b.length ≤ 9223372036854775807) := hb
  clear hs hw ha hb
  by_cases h6 : (str b).size ≤ 6000
  · obtain ⟨e1, e2⟩ := split_ok (b := b) size (by omega)
    have H6 : Hid (b.length ≤ 6000) := by show _ ≤ _; omega
    have HE1 : Hid (splitL b (volN size) = volsB (roomN size) b) := e1
    have HE2 : Hid (splitE b (volN size) = 0) := e2
    obtain ⟨r1, r2, r3⟩ := roomN_range size
    have HR1 : Hid (26 ≤ roomN size) := r1
    have HR2 : Hid (roomN size ≤ 3986) := r2
    clear e1 e2 hz r1 r2 r3
    go_enter Try.func5, Try.ntmps5
    go_wp2_with fail
    refine (volumes_any size _ HS.out).mono ?_
    rintro e w1 ⟨rfl, hw1⟩
    obtain rfl : w = w1 := hw1.symm
    go_wp2_with fail
    refine (psplit_any b (volN size) _ HBB.out).mono ?_
    rintro e w1 ⟨ad, cap, N, rfl, hN, hv, hb1⟩
    rw [HE1.out] at hN hv
    rw [HE2.out]
    rw [vols_len] at hN
    generalize hmm : roomN size = m at *
    have HSM : Hid (∀ c : List UInt8, c.length = b.length → splitL c (volN size) = volsB m c ∧ splitE c (volN size) = 0) := fun c hc => by
      rw [← hmm]; exact split_ok size (by rw [hc]; exact H6.out)
    have HM0 := cnt_pos m b.length (by have := HR1.out; omega)
    have HM1 := cnt_small m b.length HR1.out H6.out
    have hN0 : 0 < N := by omega
    have hN1 : N < 256 := by omega
    have HN : Hid (N = cntB m b.length) := hN
    have HV : Hid (Vec w1 w.heap.size 9 1 ad N cap (strs (volsB m b))) := hv
    have HB1 : Hid (Below w.heap.size w w1) := hb1
    have HNV : Hid (N = (volsB m b).length) := by show _ = _; rw [vols_len]; exact HN.out
    have HSH : Hid (∀ v, v ∈ volsB m b → v.length ≤ 34359738368) := fun v hv => by have := vols_short hv; have := HR2.out; omega
    have hcap := hv.cap_le
    clear hN hv hb1 HM0 HM1 hmm HE1 HE2
    go_wp2_with fail
    refine (pjoin_any (volsB m b) ad N cap _ (strs_lies HV.out HNV.out) HNV.out HSH.out (by omega)).mono ?_
    rintro e w2 ⟨rfl, hb2⟩
    rw [join_perm HR1.out H6.out (List.Perm.refl _)]
    have HB2 : Hid (Below w1.heap.size w1 w2) := hb2
    clear hb2
    have q0 : ((str b).toList == (str b).toList) = true := by simp
    have q1 : ((N : Int) == 0) = false := by rw [beq_eq_false_iff_ne]; omega
    have q2 : ((str ([] : List UInt8)).toList == []) = true := by rw [str_toList]; rfl
    go_wp2_with fail
    obtain ⟨p1, p2⟩ := pickI_lt which (N : Int) (by omega)
    obtain ⟨i, hi⟩ : ∃ i : Nat, pickI which (N : Int) = (i : Int) := ⟨(pickI which (N : Int)).toNat, by omega⟩
    have hiN : i < N := by omega
    have HI : Hid (pickI which (N : Int) = (i : Int)) := hi
    clear p1 p2 hi
    refine (pick_any which (N : Int) _ HW.out (by omega) (by omega)).mono ?_
    rintro e w3 ⟨rfl, hw3⟩
    obtain rfl : w2 = w3 := hw3.symm
    rw [HI.out]
    have u1 : (0 : Int) ≤ (i : Int) := by omega
    have u2 : (i : Int) ≤ (cap : Int) := by omega
    have u3 : (i : Int) + 1 ≤ (N : Int) := by omega
    have HL : Hid (Lies w2 ad N 1 (fun i => [.string (str ((volsB m b).getD i []))])) := (strs_lies HV.out HNV.out).below HB2.out
    have HZ3 : Hid (w.heap.size ≤ w2.heap.size) := Nat.le_trans HB1.out.size HB2.out.size
    go_wp2_with (first
      | (at_builtin; refine wpList_pushAll (by rfl) _ _ 33 (by rfl) w2.heap.size 9 1 16 (.string ⟨#[]⟩) Try.underlying33 (by kernel_rfl) rfl (by decide) none 0 0 [] (by rfl) (Vec.nil _ _ _ _) ad i cap (fun k => [.string (str ((volsB m b).getD k []))]) (by rfl) (HL.out.take i (by omega)) (fun _ _ => rfl) (fun j _ => ones_str (fun j => (volsB m b).getD j []) j) ?_ ?_ ?_ i ?_ ?_; (omega); (omega); (exact Nat.le_refl _); (omega); intro ad4 cap4 w4 hv4 hb4 hs4; rw [List.nil_append, range_strs0 (volsB m b) i (by rw [← HNV.out]; omega)] at hv4)
      | (refine wpList_tail (by rfl) 33 _ _ (by rfl) (by kernel_rfl) (by kernel_rfl) ad N cap (i + 1) _ (by rfl) (by rfl) (by omega) (by omega) _ (HL.out.below hb4) hcap ?_; intro A9 HL9)
      | (at_builtin; refine wpList_pushAll (by rfl) _ _ 33 (by rfl) w2.heap.size 9 1 16 (.string ⟨#[]⟩) Try.underlying33 (by kernel_rfl) rfl (by decide) ad4 i cap4 _ (by rfl) hv4 A9 (N - (i + 1)) (cap - (i + 1)) (fun k => [.string (str ((volsB m b).getD (i + 1 + k) []))]) (by rfl) HL9 (fun _ _ => rfl) (fun j _ => ones_str (fun j => (volsB m b).getD (i + 1 + j) []) j) ?_ ?_ ?_ (N - 1) ?_ ?_; (omega); (omega); (exact hs4); (omega); intro ad5 cap5 w5 hv5 hb5 hs5; rw [range_strs (volsB m b) (i + 1) (N - (i + 1)) (by rw [← HNV.out]; omega)] at hv5))
    have hl5 : strs ((volsB m b).take i) ++ strs (((volsB m b).drop (i + 1)).take (N - (i + 1))) = strs ((volsB m b).take i ++ (volsB m b).drop (i + 1)) := by
      rw [List.take_of_length_le (l := (volsB m b).drop (i + 1)) (by rw [List.length_drop, ← HNV.out]; exact Nat.le_refl _), strs, strs, strs, List.map_append]
    rw [hl5] at hv5
    have HNL : Hid (N - 1 = ((volsB m b).take i ++ (volsB m b).drop (i + 1)).length) := by show _ = _; simp [← HNV.out]; omega
    have HSB : Hid (((volsB m b).take i ++ (volsB m b).drop (i + 1)).Sublist (volsB m b)) := by
      have h1 := List.take_append_drop i (volsB m b)
      have h2 : ((volsB m b).drop (i + 1)).Sublist ((volsB m b).drop i) := List.drop_sublist_drop_left _ (by omega)
      have h3 := List.Sublist.append (List.Sublist.refl ((volsB m b).take i)) h2
      rw [h1] at h3; exact h3
    have HJL : Hid (joinRd ((volsB m b).take i ++ (volsB m b).drop (i + 1)) = ⟨[], 16, 0⟩) := join_less HR1.out H6.out HSB.out (by rw [← HNL.out, ← HN.out]; omega)
    have HV5 : Hid (Vec w5 w2.heap.size 9 1 ad5 (N - 1) cap5 (strs ((volsB m b).take i ++ (volsB m b).drop (i + 1)))) := hv5
    have HB5 : Hid (Below w2.heap.size w2 w5) := hb4.trans hb5
    clear hv4 hb4 hs4 hv5 hb5 hs5 hl5
    refine (pjoin_any _ ad5 (N - 1) cap5 _ (strs_lies HV5.out HNL.out) HNL.out (fun v hv => HSH.out v (HSB.out.subset hv)) (by omega)).mono ?_
    rintro e w6 ⟨rfl, hb6⟩
    rw [HJL.out]
    have HB6 : Hid (Below w2.heap.size w2 w6) := HB5.out.trans (hb6.mono HB5.out.size)
    have HL6 : Hid (Lies w6 ad N 1 (fun i => [.string (str ((volsB m b).getD i []))])) := HL.out.below HB6.out
    have hz6 := HB6.out.size
    clear hb6 HV5 HB5 HJL HSB HNL HL
    obtain ⟨bi, oi, hbli, hixi, hci⟩ := HL6.out.at cap (P := Try.prog) (t := 33) (by kernel_rfl) (by kernel_rfl) hiN
    have ci : w6.cell? ⟨bi, oi, none⟩ = some (.string (str ((volsB m b).getD i []))) := hci 0 _ (by omega) rfl
    have HCI : Hid (w6.cell? ⟨bi, oi, none⟩ = some (.string (str ((volsB m b).getD i [])))) := ci
    have HMI : Hid ((volsB m b).getD i [] ∈ volsB m b) := volAt_mem (by rw [← HNV.out]; exact hiN)
    have HJM : Hid (joinRd (volsB m b ++ [(volsB m b).getD i []]) = ⟨[], 15, cntB m b.length⟩) := join_more HR1.out H6.out HMI.out
    have HBLI : Hid (bi < w6.heap.size) := hbli
    clear hci ci hbli
    generalize hvi : (volsB m b).getD i [] = vi at *
    go_wp2_with (first
      | (at_builtin; refine wpList_pushAll (by rfl) _ _ 33 (by rfl) w6.heap.size 9 1 16 (.string ⟨#[]⟩) Try.underlying33 (by kernel_rfl) rfl (by decide) none 0 0 [] (by rfl) (Vec.nil _ _ _ _) ad N cap (fun k => [.string (str ((volsB m b).getD k []))]) (by rfl) HL6.out (fun _ _ => rfl) (fun j _ => ones_str (fun j => (volsB m b).getD j []) j) ?_ ?_ ?_ N ?_ ?_; (omega); (omega); (exact Nat.le_refl _); (omega); intro ad7 cap7 w7 hv7 hb7 hs7; rw [List.nil_append, range_strs0 (volsB m b) N (by rw [← HNV.out]; omega), List.take_of_length_le (by rw [← HNV.out]; omega)] at hv7; have ci7 := (hb7.cell (p := ⟨bi, oi, none⟩) HBLI.out).trans HCI.out)
      | (at_builtin; refine wpList_push (by rfl) _ _ 33 (by rfl) w6.heap.size 9 1 16 (.string ⟨#[]⟩) Try.underlying33 (by kernel_rfl) rfl (by decide) ad7 N cap7 _ (by rfl) (hv7.keep ((Below.refl _ _).alloc (Nat.le_refl _) _)) _ _ [.string (str vi)] (by rfl) rfl ?_ ?_ ?_ ?_ ?_ ?_; exact new_cells _ _ _; (simp [Value.oneCell']); (omega); (omega); (simp; omega); intro ad8 cap8 w8 hv8 hb8 hs8))
    have HV8 : Hid (Vec w8 w6.heap.size 9 1 ad8 (N + 1) cap8 (strs (volsB m b ++ [vi]))) := by
      show Vec _ _ _ _ _ _ _ _
      rw [strs, List.map_append]; exact hv8
    have HB8 : Hid (Below w6.heap.size w6 w8) := (hb7.trans (((Below.refl _ w7).alloc (Nat.le_refl _) _).mono hs7)).trans hb8
    have HN8 : Hid (N + 1 = (volsB m b ++ [vi]).length) := by show _ = _; rw [List.length_append, ← HNV.out]; rfl
    clear hv7 hb7 hs7 hv8 hb8 hs8 ci7
    refine (pjoin_any (volsB m b ++ [vi]) ad8 (N + 1) cap8 _ (strs_lies HV8.out HN8.out) HN8.out (fun v hv => by rcases List.mem_append.1 hv with h | h; (exact HSH.out v h); (simp at h; subst h; exact HSH.out _ HMI.out)) (by omega)).mono ?_
    rintro e w9 ⟨rfl, hb9⟩
    rw [HJM.out, ← HN.out]
    have HB9 : Hid (Below w6.heap.size w6 w9) := HB8.out.trans (hb9.mono HB8.out.size)
    clear hb9 HV8 HB8 HN8 HJM
    have HB29 : Hid (Below w2.heap.size w2 w9) := HB6.out.trans (HB9.out.mono HB6.out.size)
    have HB19 : Hid (Below w1.heap.size w1 w9) := HB2.out.trans (HB29.out.mono HB2.out.size)
    have HB09 : Hid (Below w.heap.size w w9) := HB1.out.trans (HB19.out.mono HB1.out.size)
    by_cases hN2 : N = 1
    · have q3 : ((N : Int) == 1) = true := by rw [hN2]; rfl
      have q4 : ((1 : Int) == 1) = true := rfl
      clear hN2
      go_wp2_with fail
      go_ret
      exact ⟨rfl, HB09.out⟩
    · have q3 : ((N : Int) == 1) = false := by rw [beq_eq_false_iff_ne]; omega
      have hb0 : 0 < b.length := by
        rcases Nat.eq_zero_or_pos b.length with h | h
        · exfalso; apply hN2; rw [HN.out, h]; unfold cntB; simp
        · exact h
      have q5 : ((str b).toList == []) = false := by rw [str_toList, beq_eq_false_iff_ne]; intro h; rw [h] at hb0; simp at hb0
      have h8 : 0 < 8 * ((str b).size : Int) := by have := HZ.out; omega
      have HN2 : Hid (1 < N) := by show _ < _; omega
      have HB0 : Hid (0 < b.length) := hb0
      clear hN2 hb0
      go_wp2_with fail
      obtain ⟨p1, p2⟩ := pickI_lt at_ (8 * ((str b).size : Int)) h8
      obtain ⟨a, ha⟩ : ∃ a : Nat, pickI at_ (8 * ((str b).size : Int)) = (a : Int) := ⟨(pickI at_ (8 * ((str b).size : Int))).toNat, by omega⟩
      have haN : a < 8 * b.length := by have := HZ.out; omega
      have HAI : Hid (pickI at_ (8 * ((str b).size : Int)) = (a : Int)) := ha
      have HAN : Hid (a < 8 * b.length) := haN
      clear p1 p2 ha haN
      refine (pick_any at_ (8 * ((str b).size : Int)) _ HA.out h8 (by omega)).mono ?_
      rintro e w10 ⟨rfl, hw10⟩
      obtain rfl : w9 = w10 := hw10.symm
      rw [HAI.out]
      go_wp2_with fail
      refine (turned_any b a 2147483648 _ (by have := H6.out; omega) HAN.out).mono ?_
      rintro e w11 ⟨rfl, hb11⟩
      obtain ⟨c, hc⟩ : ∃ c, c = turnB (bitM 2147483648) a b 32 := ⟨_, rfl⟩
      have HCL : Hid (c.length = b.length) := by show _ = _; rw [hc]; exact turn_len _ _ _ _
      have HCC : Hid (crc pSum b ≠ crc pSum c) := by
        rw [hc]
        exact fun e => crc_turned pSum_lt pSum_odd (bitM 2147483648) a b (turn_one _ _ _ _ 0 (by omega) bit_last (by have := HAN.out; omega)) e.symm
      rw [← hc]
      obtain ⟨s1, s2⟩ := HSM.out c HCL.out
      have HS1 : Hid (splitL c (volN size) = volsB m c) := s1
      have HS2 : Hid (splitE c (volN size) = 0) := s2
      have HB11 : Hid (Below w9.heap.size w9 w11) := hb11
      clear hc s1 s2 hb11 HAI h8 hw10
      go_wp2_with fail
      refine (volumes_any size _ HS.out).mono ?_
      rintro e w12 ⟨rfl, hw12⟩
      obtain rfl : w11 = w12 := hw12.symm
      clear hw12
      go_wp2_with fail
      refine (psplit_any c (volN size) _ (by have := HCL.out; have := HBB.out; omega)).mono ?_
      rintro e w13 ⟨ad13, cap13, N13, rfl, hN13, hv13, hb13⟩
      rw [HS1.out] at hN13 hv13
      rw [vols_len, HCL.out, ← HN.out] at hN13
      subst hN13
      rw [HS2.out]
      have HB13 : Hid (Below w9.heap.size w9 w13) := HB11.out.trans (hb13.mono HB11.out.size)
      have HVC : Hid (N13 = (volsB m c).length) := by show _ = _; rw [vols_len, HCL.out, ← HN.out]
      obtain ⟨bc, oc, hblc, hixc, hcc⟩ := (strs_lies hv13 HVC.out).at cap13 (P := Try.prog) (t := 33) (by kernel_rfl) (by kernel_rfl) hiN
      have cc : w13.cell? ⟨bc, oc, none⟩ = some (.string (str ((volsB m c).getD i []))) := hcc 0 _ (by omega) rfl
      have HV13 : Hid (Vec w13 w.heap.size 9 1 ad N13 cap (strs (volsB m b))) := (HV.out.keep HB19.out).keep HB13.out
      obtain ⟨g, hgd, hgB, hgl, hix, hcg, hfz, hst⟩ := HV13.out.cell1 (P := Try.prog) (t := 33) (by kernel_rfl) (by kernel_rfl) hiN (i : Int) rfl
      have hcg2 : w13.cell? ⟨g, i, none⟩ = some (.string (str vi)) := by
        rw [hcg, strs_at (by rw [← HNV.out]; exact hiN), hvi]
      have HJX : Hid (joinRd ((volsB m b).set i ((volsB m c).getD i [])) = ⟨[], 14, if i = 0 then 1 else i⟩) := join_mixed HR1.out H6.out HCL.out HCC.out (by rw [← HN.out]; exact HN2.out) (by rw [← HN.out]; exact hiN)
      have HMC : Hid ((volsB m c).getD i [] ∈ volsB m c) := volAt_mem (by rw [← HVC.out]; exact hiN)
      have HST : Hid (∀ x : List UInt8, Vec (w13.setCell ⟨g, i, none⟩ (.string (str x))) w.heap.size 9 1 ad N13 cap (strs ((volsB m b).set i x))) := fun x => by rw [← strs_set]; exact hst _
      have HU : Hid (∀ x : List UInt8, Below w.heap.size w (w13.setCell ⟨g, i, none⟩ (.string (str x)))) := fun x => ((Upd.refl g w13).setCell _ rfl _).below (HB09.out.trans (HB13.out.mono HB09.out.size)) hgB
      have q6 : ((N13 : Int) != (N13 : Int)) = false := by simp
      have HVL : Hid (((volsB m c).getD i []).length ≤ 34359738368) := by have := vols_short HMC.out; have := HR2.out; show _ ≤ _; omega
      clear hcc hcg hst hv13 hb13 hgd hvi hixi
      generalize (volsB m c).getD i [] = vc at *
      go_wp2_with fail
      have hv14 := HST.out vc
      have hb14 := HU.out vc
      generalize w13.setCell ⟨g, i, none⟩ (.string (str vc)) = w14 at *
      have HN14 : Hid (N13 = ((volsB m b).set i vc).length) := by show _ = _; rw [List.length_set, ← HNV.out]
      have HV14 : Hid (Vec w14 w.heap.size 9 1 ad N13 cap (strs ((volsB m b).set i vc))) := hv14
      have HB14 : Hid (Below w.heap.size w w14) := hb14
      clear hv14 hb14 HST HU
      refine (pjoin_any ((volsB m b).set i vc) ad N13 cap _ (strs_lies HV14.out HN14.out) HN14.out (fun v hv => by rcases List.mem_or_eq_of_mem_set hv with h | h; (exact HSH.out v h); (rw [h]; exact HVL.out)) (by omega)).mono ?_
      rintro e w15 ⟨rfl, hb15⟩
      rw [HJX.out]
      have HB15 : Hid (Below w.heap.size w w15) := HB14.out.trans (hb15.mono HB14.out.size)
      clear hb15 hixc cc hcg2 hix hfz
      by_cases hi0 : i = 0
      · subst hi0
        go_wp2_with fail
        go_ret
        exact ⟨by first | rfl | simp, HB15.out⟩
      · have q7 : ((i : Int) == 0) = false := by rw [beq_eq_false_iff_ne]; omega
        rw [if_neg hi0]
        go_wp2_with fail
        go_ret
        exact ⟨by first | rfl | simp, HB15.out⟩
  · obtain ⟨e1, e2⟩ := split_no (b := b) size (by omega)
    have HE1 : Hid (splitL b (volN size) = []) := e1
    have HE2 : Hid (splitE b (volN size) = 12) := e2
    clear e1 e2 hz
    go_enter Try.func5, Try.ntmps5
    go_wp2_with fail
    refine (volumes_any size _ HS.out).mono ?_
    rintro e w1 ⟨rfl, hw1⟩
    obtain rfl : w = w1 := hw1.symm
    go_wp2_with fail
    refine (psplit_any b (volN size) _ HBB.out).mono ?_
    rintro e w1 ⟨ad, cap, N, rfl, hN, hv, hb1⟩
    rw [HE1.out] at hN
    rw [HE2.out]
    have q1 : ((N : Int) == 0) = true := by rw [hN]; rfl
    clear hN hv hw1
    go_wp2_with fail
    go_ret
    exact ⟨by first | rfl | simp, hb1⟩
end Go.Proofs.Ytdjpkgaicmklmab

/- parcelkeep.Strange: called with any writes and numbers it answers true. -/
namespace Go.Proofs.Ytdjpkgaicmklmab
open Go.RowKit

theorem ownBlock_map (ad : Option Addr) (n cap : Nat) : (Value.slice ad n cap).ownBlock = ad.map (·.block) := by cases ad <;> rfl
section
variable {P : Program} {w : World} {ops : Array Oper} {rest : List Oper} {o : Oper} {a : Act} {Q : Exit → Act → World → Prop}
/-- 'l = append(l, x)': which block is written. -/
theorem wpList_pushg (hgd : o.guard = none) (s x : Operand) (t : TypeId) (ho : o.op = .call { callee := .builtin .append, args := #[s, x], argTypes := #[t, t] })
    (B e m bytes : Nat) (z : Value) (ht : P.underlying t = some (.slice e)) (hinfo : (P.info? e).map (fun i => (i.zero, i.size, i.bytes)) = some (some z, m, bytes)) (hzs : z.cells.size = m) (hm : 0 < m)
    (ad : Option Addr) (n cap : Nat) (xs : List Value) (hs : a.eval s = .slice ad n cap) (hown : Vec w B e m ad n cap xs)
    (ad1 : Addr) (c : Nat) (row : List Value) (hx : a.eval x = .slice (some ad1) 1 c) (hl : row.length = m) (hnews : ∀ j u, row[j]? = some u → w.cell? (ad1.add j) = some u) (h1 : ∀ u, u ∈ row → u.oneCell' = true)
    (hbytes : (n + 1) * bytes ≤ 140737488355328) (hn : n < 9223372036854775807) (hB : B ≤ w.heap.size)
    (h : ∀ g cap' w', Vec w' B e m (some ⟨g, 0, none⟩) (n + 1) cap' (xs ++ row) → w.grownBy w' (ad.map (·.block)) → (ad.map (·.block) = some g ∨ g = w.heap.size) → wpList P ops Q rest (a.put o.dst (.slice (some ⟨g, 0, none⟩) (n + 1) cap')) w') : wpList P ops Q (o :: rest) a w := by
  obtain ⟨i, hi, hzz⟩ := Option.map_eq_some_iff.1 hinfo
  simp only [Prod.mk.injEq] at hzz
  obtain ⟨hz, hsz, hby⟩ := hzz
  refine wpList_append_lies w hgd s x t ho B e i z m bytes ht hi hz hsz hby hzs hm (.slice ad n cap) n xs hs hown ad1 1 c row hx (by rw [hl, Nat.one_mul]) hnews h1 (by omega) (by unfold maxLen; omega) hbytes hB w.heap.size rfl ?_
  intro g cap' w' ho' hgr hor _
  rw [ownBlock_map] at hgr hor
  exact h g cap' w' ho' hgr hor
end
theorem Vec.gr {w w' : World} {B e m : Nat} {ad : Option Addr} {n cap : Nat} {xs : List Value} {row : Option Nat} (h : Vec w B e m ad n cap xs) (hg : w.grownBy w' row) (hne : ∀ b, ad = some b → row ≠ some b.block) : Vec w' B e m ad n cap xs := by
  refine ⟨h.1, ?_⟩
  rcases h.2 with h2 | ⟨k, c, cur, hv, hB, hc, r⟩
  · exact Or.inl h2
  · refine Or.inr ⟨k, c, cur, hv, hB, ?_, r⟩
    simp at hv
    rw [hg.block k (Array.getElem?_eq_some_iff.1 hc).1 (fun e => hne _ hv.1 e.symm)]; exact hc
theorem Bx.gr {w w' : World} {k e : Nat} {cs : List Value} {row : Option Nat} (b : Bx w k e cs) (hg : w.grownBy w' row) (hne : row ≠ some k) : Bx w' k e cs := ⟨by rw [hg.block k b.lt (fun e => hne e.symm)]; exact b.h⟩
/-- Another replica, while one's edits grow. -/
theorem Rv.Ok.gr {w w' : World} {B Be : Nat} {v : Rv} {ad : Option Addr} {n cap : Nat} {xs : List Value} (h : v.Ok w B) (hv : Vec w Be 61 2 ad n cap xs) (hg : w.grownBy w' (ad.map (·.block))) (hne : ∀ k, ad.map (·.block) = some k → v.a3.map (·.block) ≠ some k) : v.Ok w' B :=
  ⟨h.b.gr hg (h.b.apart hv (by decide)), ⟨h.l.v1.gr hg (fun b hb e => h.l.v1.apart hv (by decide) b hb e), h.l.v2.gr hg (fun b hb e => h.l.v2.apart hv (by decide) b hb e), h.l.v3.gr hg (fun b hb e => hne _ e (by rw [hb]; rfl)), rfl, rfl, rfl⟩, h.few, h.lo⟩
/-- One edit more, in its variable. -/
theorem Rv.Ok.more {w w' w9 : World} {B g cap' : Nat} {v : Rv} {e : Ed} (h : v.Ok w B) (hf : v.T.E.length < 1000) (hv' : Vec w' B 61 2 (some ⟨g, 0, none⟩) (v.T.E.length + 1) cap' (ecells v.T.E ++ e.cells)) (hg : w.grownBy w' (v.a3.map (·.block))) (hu : Upd v.g w' w9) (hb : Bx w9 v.g 28 [.slice v.a1 v.T.K.length v.k1, .slice v.a2 v.T.C.length v.k2, .slice (some ⟨g, 0, none⟩) (v.T.E.length + 1) cap']) :
    (⟨v.g, ⟨v.T.K, v.T.C, v.T.E ++ [e]⟩, v.a1, v.a2, some ⟨g, 0, none⟩, v.k1, v.k2, cap'⟩ : Rv).Ok w9 B := by
  have hb1 : Bx w' v.g 28 v.cells := h.b.gr hg (h.b.apart h.l.v3 (by decide))
  have k1 := h.l.v1.gr hg (fun b hb e => h.l.v1.apart h.l.v3 (by decide) b hb e)
  have k2 := h.l.v2.gr hg (fun b hb e => h.l.v2.apart h.l.v3 (by decide) b hb e)
  have hl : (v.T.E ++ [e]).length = v.T.E.length + 1 := by simp
  refine ⟨by show Bx w9 v.g 28 [.slice v.a1 v.T.K.length v.k1, .slice v.a2 v.T.C.length v.k2, .slice (some ⟨g, 0, none⟩) (v.T.E ++ [e]).length cap']; rw [hl]; exact hb, ⟨k1.updo hu (fun b hb e1 => hb1.apart k1 (by decide) (by rw [hb]; simp [e1])), k2.updo hu (fun b hb e1 => hb1.apart k2 (by decide) (by rw [hb]; simp [e1])), ?_, rfl, rfl, rfl⟩, ⟨h.few.1, h.few.2.1, by show (v.T.E ++ [e]).length ≤ 1000; rw [hl]; omega⟩, h.lo⟩
  show Vec w9 B 61 2 (some ⟨g, 0, none⟩) (v.T.E ++ [e]).length cap' (ecells (v.T.E ++ [e]))
  rw [hl, ecells_app, show ecells [e] = e.cells by simp [ecells]]
  exact hv'.updo hu (fun b hb e1 => hb1.apart hv' (by decide) (by rw [hb]; simp [e1]))
theorem blk_lo {w : World} {B e m : Nat} {ad : Option Addr} {n cap : Nat} {xs : List Value} (h : Vec w B e m ad n cap xs) : ∀ k, ad.map (·.block) = some k → B ≤ k ∧ k < w.heap.size := fun k hk => ⟨(h.typed k hk).1, by obtain ⟨_, cur, hc⟩ := h.typed k hk; exact (Array.getElem?_eq_some_iff.1 hc).1⟩
theorem push_apart {r s : Option Addr} {g Hs : Nat} (hor : r.map (·.block) = some g ∨ g = Hs) (hF : ∀ k, r.map (·.block) = some k → s.map (·.block) ≠ some k) (hlow : ∀ k, s.map (·.block) = some k → k < Hs) : ∀ k, (some (⟨g, 0, none⟩ : Addr)).map (·.block) = some k → s.map (·.block) ≠ some k := by
  intro k hk e
  simp at hk; subst hk
  rcases hor with h | h
  · exact hF _ h e
  · have := hlow _ e; omega

theorem lies_lit (w : World) (l : List (List UInt8)) : Lies (w.alloc (.cells (l.map fun b => Value.string (str b)).toArray 9)) (some ⟨w.heap.size, 0, none⟩) l.length 1 (fun i => [.string (str (l.getD i []))]) := by
  refine Or.inr ⟨w.heap.size, 0, rfl, by simp, fun i hi j v hj hv => ?_⟩
  obtain rfl : j = 0 := by omega
  simp only [List.getElem?_cons_zero, Option.some.injEq] at hv
  subst hv
  rw [World.cell?_alloc_new]
  simp [List.getD, hi]

set_option maxRecDepth 100000 in
set_option maxHeartbeats 16000000 in
theorem strange_any (nw nn nx : Nat) (fw fx : Nat → Wr) (fn : Nat → Int) (aw an ax : Option Addr) (cw cn cx : Nat) (size which : Int) (w : World)
    (hW : Ws w aw nw fw) (hN : Ns w an nn fn) (hX : Ws w ax nx fx) (kw : nw ≤ cw) (hs : I64 size) (hwh : I64 which) :
    Calls Try.prog 8 #[.slice aw nw cw, .slice an nn cn, .slice ax nx cx, .int .i64 size, .int .i64 which] w fun e w' => e = .returned (.bool true) ∧ Below w.heap.size w w' := by
  have HS : Hid (I64 size) := hs
  have HWH : Hid (I64 which) := hwh
  have hp : ∀ k, 0 ≤ limS ⟨nw, fw, nn, fn⟩ k := fun k => (seen_range _ _ _).1
  have q1 : (editsTo fx (min nx 8)).length ≤ 8 := by simp [editsTo]; omega
  have hst := strange_all ⟨nw, fw, nn, fn⟩ hp (min nw 40) (by omega) (editsTo fx (min nx 8)) q1 (edits_ok fx (min nx 8))
  have hsm := next_small (n := 1) (by omega) (last := bundleB (recsOf 0 0 (triS ⟨nw, fw, nn, fn⟩ (min nw 40) (editsTo fx (min nx 8) ++ [edX 97])).rep)) (o := triS ⟨nw, fw, nn, fn⟩ (min nw 40) (editsTo fx (min nx 8) ++ [edX 97])) hst.cT
  have KA : Hid (∀ X, Below w.heap.size w X → Calls Try.prog 9 #[.slice aw nw cw, .slice an nn cn, .slice ax nx cx] X fun e w' => ∃ a1 a2 a3 k1 k2 k3, e = .returned (.agg #[.slice a1 (triS ⟨nw, fw, nn, fn⟩ (min nw 40) (editsTo fx (min nx 8))).K.length k1, .slice a2 (triS ⟨nw, fw, nn, fn⟩ (min nw 40) (editsTo fx (min nx 8))).C.length k2, .slice a3 (triS ⟨nw, fw, nn, fn⟩ (min nw 40) (editsTo fx (min nx 8))).E.length k3]) ∧ LT w' X.heap.size (triS ⟨nw, fw, nn, fn⟩ (min nw 40) (editsTo fx (min nx 8))) a1 a2 a3 k1 k2 k3 ∧ Below X.heap.size X w') := fun X h =>
    (state_tri (S := ⟨nw, fw, nn, fn⟩) (hW.below h) (hN.below h) (hX.below h) kw).mono fun e w' ⟨a1, a2, a3, k1, k2, k3, h1, _, h3, h4⟩ => ⟨a1, a2, a3, k1, k2, k3, h1, h3, h4⟩
  have hE : (triS ⟨nw, fw, nn, fn⟩ (min nw 40) (editsTo fx (min nx 8))).E.length ≤ 8 := q1
  clear hW hN hX hs hwh hp q1
  obtain ⟨T0, hT0⟩ : ∃ T, T = triS ⟨nw, fw, nn, fn⟩ (min nw 40) (editsTo fx (min nx 8)) := ⟨_, rfl⟩
  have eP : triS ⟨nw, fw, nn, fn⟩ (min nw 40) (editsTo fx (min nx 8) ++ [edX 97]) = ⟨T0.K, T0.C, T0.E ++ [edX 97]⟩ := by rw [hT0]; rfl
  have eQ : triS ⟨nw, fw, nn, fn⟩ (min nw 40) (editsTo fx (min nx 8) ++ [edX 98]) = ⟨T0.K, T0.C, T0.E ++ [edX 98]⟩ := by rw [hT0]; rfl
  rw [eP, eQ, ← hT0] at hst
  rw [eP, ← hT0] at hsm
  rw [← hT0] at KA hE
  clear eP eQ hT0
  generalize hA : bundleB (recsOf 0 0 (Tri.rep ⟨T0.K, T0.C, T0.E ++ [edX 97]⟩)) = A at *
  generalize hB : bundleB (recsOf 0 0 (Tri.rep ⟨T0.K, T0.C, T0.E ++ [edX 98]⟩)) = B at *
  generalize nextB 1 A ⟨T0.K, T0.C, T0.E ++ [edX 97]⟩ T0 = C at *
  have HST : Hid (Strange T0 ⟨T0.K, T0.C, T0.E ++ [edX 97]⟩ ⟨T0.K, T0.C, T0.E ++ [edX 98]⟩ A B C) := hst
  have HSM : Hid (C.length ≤ 7000) := hsm
  have HEA : Hid (Rep.exp (Tri.rep ⟨T0.K, T0.C, T0.E ++ [edX 97]⟩) = A) := by show _ = _; unfold Rep.exp; rw [if_pos hst.cP, hA]
  have HEB : Hid (Rep.exp (Tri.rep ⟨T0.K, T0.C, T0.E ++ [edX 98]⟩) = B) := by show _ = _; unfold Rep.exp; rw [if_pos hst.cQ, hB]
  obtain ⟨f1, f2, f3⟩ := few_of hst.cT
  have HF : Hid (T0.K.length ≤ 1000 ∧ T0.C.length ≤ 1000 ∧ T0.E.length ≤ 1000 ∧ T0.E.length < 1000) := ⟨by omega, by omega, by omega, by omega⟩
  clear hst hsm hA hB f1 f2 f3 hE
  obtain ⟨P, hP⟩ : ∃ P : Tri, P = ⟨T0.K, T0.C, T0.E ++ [edX 97]⟩ := ⟨_, rfl⟩
  obtain ⟨Q, hQ⟩ : ∃ Q : Tri, Q = ⟨T0.K, T0.C, T0.E ++ [edX 98]⟩ := ⟨_, rfl⟩
  rw [← hP, ← hQ] at HST
  rw [← hP] at HEA
  rw [← hQ] at HEB
  have HPE : Hid (P = ⟨T0.K, T0.C, T0.E ++ [edX 97]⟩) := hP
  have HQE : Hid (Q = ⟨T0.K, T0.C, T0.E ++ [edX 98]⟩) := hQ
  clear hP hQ
  go_enter Try.func8, Try.ntmps8
  go_wp2_with fail
  refine (KA.out _ (Below.refl _ _)).mono ?_
  rintro e w1 ⟨a1, a2, a3, k1, k2, k3, rfl, hL, hb⟩
  have hal : Below w1.heap.size w1 (w1.alloc (.cells #[.slice a1 T0.K.length k1, .slice a2 T0.C.length k2, .slice a3 T0.E.length k3] 28)) := (Below.refl _ _).alloc (Nat.le_refl _) _
  have HW1 : Hid (Below w.heap.size w (w1.alloc (.cells #[.slice a1 T0.K.length k1, .slice a2 T0.C.length k2, .slice a3 T0.E.length k3] 28))) := hb.trans (hal.mono hb.size)
  have HR1 : Hid ((⟨w1.heap.size, T0, a1, a2, a3, k1, k2, k3⟩ : Rv).Ok (w1.alloc (.cells #[.slice a1 T0.K.length k1, .slice a2 T0.C.length k2, .slice a3 T0.E.length k3] 28)) w.heap.size) := Rv.Ok.new hL ⟨HF.out.1, HF.out.2.1, HF.out.2.2.1⟩ hb.size
  clear hL hb hal
  go_wp2_with fail
  generalize w1.alloc (.cells #[.slice a1 T0.K.length k1, .slice a2 T0.C.length k2, .slice a3 T0.E.length k3] 28) = X1 at *
  generalize w1.heap.size = gr at *
  clear w1
  refine (KA.out _ HW1.out).mono ?_
  rintro e w2 ⟨b1, b2, b3, l1, l2, l3, rfl, hL, hb⟩
  have hal : Below w2.heap.size w2 (w2.alloc (.cells #[.slice b1 T0.K.length l1, .slice b2 T0.C.length l2, .slice b3 T0.E.length l3] 28)) := (Below.refl _ _).alloc (Nat.le_refl _) _
  have hs1 := hb.trans (hal.mono hb.size)
  have HW2 : Hid (Below w.heap.size w (w2.alloc (.cells #[.slice b1 T0.K.length l1, .slice b2 T0.C.length l2, .slice b3 T0.E.length l3] 28))) := HW1.out.trans (hs1.mono HW1.out.size)
  have HS2 : Hid ((⟨w2.heap.size, T0, b1, b2, b3, l1, l2, l3⟩ : Rv).Ok (w2.alloc (.cells #[.slice b1 T0.K.length l1, .slice b2 T0.C.length l2, .slice b3 T0.E.length l3] 28)) X1.heap.size) := Rv.Ok.new hL ⟨HF.out.1, HF.out.2.1, HF.out.2.2.1⟩ hb.size
  have HR2 : Hid ((⟨gr, T0, a1, a2, a3, k1, k2, k3⟩ : Rv).Ok (w2.alloc (.cells #[.slice b1 T0.K.length l1, .slice b2 T0.C.length l2, .slice b3 T0.E.length l3] 28)) w.heap.size) := HR1.out.step hs1
  have FRS : Hid (∀ k, a3.map (·.block) = some k → b3.map (·.block) ≠ some k) := fun k h1 h2 => by have p1 := (blk_lo HR1.out.l.v3 k h1).2; have p2 := (blk_lo hL.v3 k h2).1; omega
  have NRS : Hid (gr ≠ w2.heap.size) := by have := HR1.out.b.lt; have := hb.size; show _ ≠ _; simp only at *; omega
  have ZS : Hid (w.heap.size ≤ X1.heap.size) := HW1.out.size
  clear hL hb hal hs1 HW1 HR1
  go_wp2_with fail
  generalize w2.alloc (.cells #[.slice b1 T0.K.length l1, .slice b2 T0.C.length l2, .slice b3 T0.E.length l3] 28) = X2 at *
  generalize w2.heap.size = gs at *
  clear w2
  refine (KA.out _ HW2.out).mono ?_
  rintro e w3 ⟨c1, c2, c3, m1, m2, m3, rfl, hL, hb⟩
  have hal : Below w3.heap.size w3 (w3.alloc (.cells #[.slice c1 T0.K.length m1, .slice c2 T0.C.length m2, .slice c3 T0.E.length m3] 28)) := (Below.refl _ _).alloc (Nat.le_refl _) _
  have hs2 := hb.trans (hal.mono hb.size)
  have HW3 : Hid (Below w.heap.size w (w3.alloc (.cells #[.slice c1 T0.K.length m1, .slice c2 T0.C.length m2, .slice c3 T0.E.length m3] 28))) := HW2.out.trans (hs2.mono HW2.out.size)
  have HT3 : Hid ((⟨w3.heap.size, T0, c1, c2, c3, m1, m2, m3⟩ : Rv).Ok (w3.alloc (.cells #[.slice c1 T0.K.length m1, .slice c2 T0.C.length m2, .slice c3 T0.E.length m3] 28)) X2.heap.size) := Rv.Ok.new hL ⟨HF.out.1, HF.out.2.1, HF.out.2.2.1⟩ hb.size
  have HR3 : Hid ((⟨gr, T0, a1, a2, a3, k1, k2, k3⟩ : Rv).Ok (w3.alloc (.cells #[.slice c1 T0.K.length m1, .slice c2 T0.C.length m2, .slice c3 T0.E.length m3] 28)) w.heap.size) := HR2.out.step hs2
  have FRT : Hid (∀ k, a3.map (·.block) = some k → c3.map (·.block) ≠ some k) := fun k h1 h2 => by have p1 := (blk_lo HR2.out.l.v3 k h1).2; have p2 := (blk_lo hL.v3 k h2).1; omega
  have NRT : Hid (gr ≠ w3.heap.size) := by have := HR2.out.b.lt; have := hb.size; show _ ≠ _; simp only at *; omega
  have HS3 : Hid ((⟨gs, T0, b1, b2, b3, l1, l2, l3⟩ : Rv).Ok (w3.alloc (.cells #[.slice c1 T0.K.length m1, .slice c2 T0.C.length m2, .slice c3 T0.E.length m3] 28)) X1.heap.size) := HS2.out.step hs2
  have FST : Hid (∀ k, b3.map (·.block) = some k → c3.map (·.block) ≠ some k) := fun k h1 h2 => by have p1 := (blk_lo HS2.out.l.v3 k h1).2; have p2 := (blk_lo hL.v3 k h2).1; omega
  have NST : Hid (gs ≠ w3.heap.size) := by have := HS2.out.b.lt; have := hb.size; show _ ≠ _; simp only at *; omega
  have ZT : Hid (w.heap.size ≤ X2.heap.size) := HW2.out.size
  clear hL hb hal hs2 HW2 HR2 HS2
  have ob := HR3.out.b; have o2 := HR3.out.c.2.2; have HV := HR3.out.l.v3; have hlen := HF.out.2.2.2
  dsimp only at ob o2 HV
  have HAL : Hid (∀ o, Below (w3.alloc (.cells #[.slice c1 T0.K.length m1, .slice c2 T0.C.length m2, .slice c3 T0.E.length m3] 28)).heap.size (w3.alloc (.cells #[.slice c1 T0.K.length m1, .slice c2 T0.C.length m2, .slice c3 T0.E.length m3] 28)) ((w3.alloc (.cells #[.slice c1 T0.K.length m1, .slice c2 T0.C.length m2, .slice c3 T0.E.length m3] 28)).alloc o)) := fun o => (Below.refl _ _).alloc (Nat.le_refl _) o
  have HSZ : Hid (∀ o, w.heap.size ≤ ((w3.alloc (.cells #[.slice c1 T0.K.length m1, .slice c2 T0.C.length m2, .slice c3 T0.E.length m3] 28)).alloc o).heap.size) := fun o => Nat.le_trans HW3.out.size (HAL.out o).size
  go_upto_region 5 with (first | (at_builtin; refine wpList_pushg (by rfl) _ _ 26 (by rfl) (w.heap.size) 61 2 24 (.agg #[.int .i64 0, .string ⟨#[]⟩]) Try.underlying26 (by kernel_rfl) rfl (by decide) a3 T0.E.length k3 _ (by rfl) (HV.keep (HAL.out _)) _ _ (edX 97).cells (by rfl) rfl ?_ ?_ ?_ ?_ ?_ ?_; exact new_cells2 _ _ _ _; exact ones3 _; (omega); (omega); (exact HSZ.out _); intro gg qq w4 hvv hgg hor; have ob2 := (ob.alloc (.cells (edX 97).cells.toArray 61)).gr hgg ((ob.alloc (.cells (edX 97).cells.toArray 61)).apart (HV.keep (HAL.out (.cells (edX 97).cells.toArray 61))) (by decide))) | (refine wpList_bput (by rfl) _ _ 26 (by rfl) gr 28 2 (by rfl) _ (.slice _ _ _) (by rfl) ob2 (by kernel_rfl) (by simp) (by rfl) (by rfl) ?_; intro w5 ob3 hu3; dsimp only [List.set] at ob3))
  have HVA := HV.keep (HAL.out (.cells (edX 97).cells.toArray 61))
  have HAR := HR3.out.step (HAL.out (.cells (edX 97).cells.toArray 61))
  have hB5 : Below w.heap.size w w5 := hu3.below (((HW3.out.trans ((HAL.out _).mono HW3.out.size))).grown hgg (Nat.le_trans HW3.out.size (HAL.out _).size) (fun k hk => Nat.le_trans (Nat.le_refl _) (blk_lo HV k hk).1)) (Nat.le_trans (Nat.le_refl _) HR3.out.lo)
  have HW5 : Hid (Below w.heap.size w w5) := hB5
  have HR5 : Hid ((⟨gr, P, a1, a2, some ⟨gg, 0, none⟩, k1, k2, qq⟩ : Rv).Ok w5 w.heap.size) := by rw [HPE.out]; exact HAR.more HF.out.2.2.2 hvv hgg hu3 ob3
  have HAS := HS3.out.step (HAL.out (.cells (edX 97).cells.toArray 61))
  have HS5 : Hid ((⟨gs, T0, b1, b2, b3, l1, l2, l3⟩ : Rv).Ok w5 X1.heap.size) := (HAS.gr HVA hgg (fun k h => FRS.out k h)).put ob2 hu3 NRS.out.symm
  have FRS2 : Hid (∀ k, (some (⟨gg, 0, none⟩ : Addr)).map (·.block) = some k → b3.map (·.block) ≠ some k) := push_apart hor (fun k h => FRS.out k h) (fun k h => (blk_lo HAS.l.v3 k h).2)
  have HAT := HT3.out.step (HAL.out (.cells (edX 97).cells.toArray 61))
  have HT5 : Hid ((⟨w3.heap.size, T0, c1, c2, c3, m1, m2, m3⟩ : Rv).Ok w5 X2.heap.size) := (HAT.gr HVA hgg (fun k h => FRT.out k h)).put ob2 hu3 NRT.out.symm
  have FRT2 : Hid (∀ k, (some (⟨gg, 0, none⟩ : Addr)).map (·.block) = some k → c3.map (·.block) ≠ some k) := push_apart hor (fun k h => FRT.out k h) (fun k h => (blk_lo HAT.l.v3 k h).2)
  clear hB5 HVA ob o2 HV hlen HAL HSZ hvv hgg hor ob2 ob3 hu3 HW3 HAR HR3 HAS HS3 HAT HT3
  generalize w3.heap.size = gt at *
  clear w3
  have ob := HS5.out.b; have o2 := HS5.out.c.2.2; have HV := HS5.out.l.v3; have hlen := HF.out.2.2.2
  dsimp only at ob o2 HV
  have HAL : Hid (∀ o, Below (w5).heap.size (w5) ((w5).alloc o)) := fun o => (Below.refl _ _).alloc (Nat.le_refl _) o
  have HSZ : Hid (∀ o, X1.heap.size ≤ ((w5).alloc o).heap.size) := fun o => Nat.le_trans (Nat.le_trans HS5.out.lo (Nat.le_of_lt HS5.out.b.lt)) (HAL.out o).size
  go_upto_region 6 with (first | (at_builtin; refine wpList_pushg (by rfl) _ _ 26 (by rfl) (X1.heap.size) 61 2 24 (.agg #[.int .i64 0, .string ⟨#[]⟩]) Try.underlying26 (by kernel_rfl) rfl (by decide) b3 T0.E.length l3 _ (by rfl) (HV.keep (HAL.out _)) _ _ (edX 98).cells (by rfl) rfl ?_ ?_ ?_ ?_ ?_ ?_; exact new_cells _ _ _; exact ones3 _; (omega); (omega); (exact HSZ.out _); intro gh qh w6 hvv hgg hor; have ob2 := (ob.alloc (.cells (edX 98).cells.toArray 61)).gr hgg ((ob.alloc (.cells (edX 98).cells.toArray 61)).apart (HV.keep (HAL.out (.cells (edX 98).cells.toArray 61))) (by decide))) | (refine wpList_bput (by rfl) _ _ 26 (by rfl) gs 28 2 (by rfl) _ (.slice _ _ _) (by rfl) ob2 (by kernel_rfl) (by simp) (by rfl) (by rfl) ?_; intro w7 ob3 hu3; dsimp only [List.set] at ob3))
  have HVA := HV.keep (HAL.out (.cells (edX 98).cells.toArray 61))
  have HAS := HS5.out.step (HAL.out (.cells (edX 98).cells.toArray 61))
  have hB5 : Below w.heap.size w w7 := hu3.below (((HW5.out.trans ((HAL.out _).mono HW5.out.size))).grown hgg (Nat.le_trans HW5.out.size (HAL.out _).size) (fun k hk => Nat.le_trans ZS.out (blk_lo HV k hk).1)) (Nat.le_trans ZS.out HS5.out.lo)
  have HW7 : Hid (Below w.heap.size w w7) := hB5
  have HS7 : Hid ((⟨gs, Q, b1, b2, some ⟨gh, 0, none⟩, l1, l2, qh⟩ : Rv).Ok w7 X1.heap.size) := by rw [HQE.out]; exact HAS.more HF.out.2.2.2 hvv hgg hu3 ob3
  have HAR := HR5.out.step (HAL.out (.cells (edX 98).cells.toArray 61))
  have HR7 : Hid ((⟨gr, P, a1, a2, (some (⟨gg, 0, none⟩ : Addr)), k1, k2, qq⟩ : Rv).Ok w7 w.heap.size) := (HAR.gr HVA hgg (fun k h => (fun k h1 h2 => FRS2.out k h2 h1) k h)).put ob2 hu3 NRS.out
  have FSR2 : Hid (∀ k, (some (⟨gh, 0, none⟩ : Addr)).map (·.block) = some k → (some (⟨gg, 0, none⟩ : Addr)).map (·.block) ≠ some k) := push_apart hor (fun k h => (fun k h1 h2 => FRS2.out k h2 h1) k h) (fun k h => (blk_lo HAR.l.v3 k h).2)
  have HAT := HT5.out.step (HAL.out (.cells (edX 98).cells.toArray 61))
  have HT7 : Hid ((⟨gt, T0, c1, c2, c3, m1, m2, m3⟩ : Rv).Ok w7 X2.heap.size) := (HAT.gr HVA hgg (fun k h => FST.out k h)).put ob2 hu3 NST.out.symm
  have FST2 : Hid (∀ k, (some (⟨gh, 0, none⟩ : Addr)).map (·.block) = some k → c3.map (·.block) ≠ some k) := push_apart hor (fun k h => FST.out k h) (fun k h => (blk_lo HAT.l.v3 k h).2)
  clear hB5 HVA ob o2 HV hlen HAL HSZ hvv hgg hor ob2 ob3 hu3 HW5 HAS HS5 HAR HR5 HAT HT5
  clear FRS FRT FST FRS2 FRT2 FSR2 FST2 NRS NRT NST
  obtain ⟨x0, x1, x2⟩ := HR7.out.c
  dsimp only at x0 x1 x2
  go_wp2_with fail
  clear x0 x1 x2
  refine (export_any P.rep a1 a2 (some ⟨gg, 0, none⟩) k1 k2 qq _ HR7.out.h).mono ?_
  rintro e w8 ⟨rfl, hb8⟩
  rw [HEA.out, HST.out.cP]
  clear HR7
  have HS8 : Hid ((⟨gs, Q, b1, b2, some ⟨gh, 0, none⟩, l1, l2, qh⟩ : Rv).Ok w8 X1.heap.size) := HS7.out.step hb8
  have HT8 : Hid ((⟨gt, T0, c1, c2, c3, m1, m2, m3⟩ : Rv).Ok w8 X2.heap.size) := HT7.out.step hb8
  have HW8 : Hid (Below w.heap.size w w8) := HW7.out.trans (hb8.mono HW7.out.size)
  clear hb8 HW7 HS7 HT7
  obtain ⟨x0, x1, x2⟩ := HS8.out.c
  dsimp only at x0 x1 x2
  go_wp2_with fail
  clear x0 x1 x2
  refine (export_any Q.rep b1 b2 (some ⟨gh, 0, none⟩) l1 l2 qh _ HS8.out.h).mono ?_
  rintro e w9 ⟨rfl, hb9⟩
  rw [HEB.out, HST.out.cQ]
  clear HS8
  have HT9 : Hid ((⟨gt, T0, c1, c2, c3, m1, m2, m3⟩ : Rv).Ok w9 X2.heap.size) := HT8.out.step hb9
  have HW9 : Hid (Below w.heap.size w w9) := HW8.out.trans (hb9.mono HW8.out.size)
  clear hb9 HW8 HT8
  have HSA : Hid (A.length ≤ 6000 ∧ B.length ≤ 6000) := ⟨HST.out.small, by rw [HST.out.len]; exact HST.out.small⟩
  have hal : Below w9.heap.size w9 ((w9.alloc (.cells #[.string (str A)] 9))) := (Below.refl _ _).alloc (Nat.le_refl _) _
  have HLI : Hid (Lies ((w9.alloc (.cells #[.string (str A)] 9))) (some ⟨w9.heap.size, 0, none⟩) 1 1 (fun i => [.string (str ([A].getD i []))])) := lies_lit w9 [A]
  have HWx : Hid (Below w.heap.size w ((w9.alloc (.cells #[.string (str A)] 9)))) := HW9.out.trans (hal.mono HW9.out.size)
  have HTx : Hid ((⟨gt, T0, c1, c2, c3, m1, m2, m3⟩ : Rv).Ok (w9.alloc (.cells #[.string (str A)] 9)) X2.heap.size) := HT9.out.step hal
  clear hal HW9 HT9
  obtain ⟨x0, x1, x2⟩ := HTx.out.c
  dsimp only at x0 x1 x2
  go_wp2_with fail
  clear x0 x1 x2
  refine (pextend_any [A] T0 (some ⟨w9.heap.size, 0, none⟩) 1 1 c1 c2 c3 m1 m2 m3 _ HLI.out rfl (fun v hv => by have := HSA.out; simp at hv; subst hv; omega) (by omega) HTx.out.h).mono ?_
  rintro e w10 ⟨rfl, hb10⟩
  rw [HST.out.ext]
  have HT10 : Hid ((⟨gt, T0, c1, c2, c3, m1, m2, m3⟩ : Rv).Ok w10 X2.heap.size) := HTx.out.step hb10
  have HW10 : Hid (Below w.heap.size w w10) := HWx.out.trans (hb10.mono HWx.out.size)
  clear hb10 HTx HWx HLI
  have hal : Below w10.heap.size w10 ((w10.alloc (.cells #[.string (str A), .string (str C)] 9))) := (Below.refl _ _).alloc (Nat.le_refl _) _
  have HLI : Hid (Lies ((w10.alloc (.cells #[.string (str A), .string (str C)] 9))) (some ⟨w10.heap.size, 0, none⟩) 2 1 (fun i => [.string (str ([A, C].getD i []))])) := lies_lit w10 [A, C]
  have HWx : Hid (Below w.heap.size w ((w10.alloc (.cells #[.string (str A), .string (str C)] 9)))) := HW10.out.trans (hal.mono HW10.out.size)
  have HTx : Hid ((⟨gt, T0, c1, c2, c3, m1, m2, m3⟩ : Rv).Ok (w10.alloc (.cells #[.string (str A), .string (str C)] 9)) X2.heap.size) := HT10.out.step hal
  clear hal HW10 HT10
  go_wp2_with fail
  refine (preplay_any [A, C] (some ⟨w10.heap.size, 0, none⟩) 2 2 _ HLI.out rfl (fun v hv => by have := HSA.out; have := HSM.out; simp at hv; rcases hv with rfl | rfl <;> omega) (by omega)).mono ?_
  rintro e w11 ⟨⟨x1, n1, y1, x2, n2, y2, x3, n3, y3, rfl, hLx⟩, hb11⟩
  rw [HST.out.rep] at hLx ⊢
  have HT11 : Hid ((⟨gt, T0, c1, c2, c3, m1, m2, m3⟩ : Rv).Ok w11 X2.heap.size) := HTx.out.step hb11
  have HW11 : Hid (Below w.heap.size w w11) := HWx.out.trans (hb11.mono HWx.out.size)
  clear hb11 HTx HWx HLI
  obtain ⟨vx1, vx2, vx3, e1, e2, e3⟩ := hLx
  simp only at e1 e2 e3
  subst e1 e2 e3
  have hal : Below w11.heap.size w11 (w11.alloc (.cells #[.slice x1 T0.K.length y1, .slice x2 T0.C.length y2, .slice x3 T0.E.length y3] 28)) := (Below.refl _ _).alloc (Nat.le_refl _) _
  have HX12 : Hid ((⟨w11.heap.size, T0, x1, x2, x3, y1, y2, y3⟩ : Rv).Ok (w11.alloc (.cells #[.slice x1 T0.K.length y1, .slice x2 T0.C.length y2, .slice x3 T0.E.length y3] 28)) 0) := Rv.Ok.new ⟨vx1.mono (Nat.zero_le _), vx2.mono (Nat.zero_le _), vx3.mono (Nat.zero_le _), rfl, rfl, rfl⟩ ⟨HF.out.1, HF.out.2.1, HF.out.2.2.1⟩ (Nat.zero_le _)
  have HT12 : Hid ((⟨gt, T0, c1, c2, c3, m1, m2, m3⟩ : Rv).Ok (w11.alloc (.cells #[.slice x1 T0.K.length y1, .slice x2 T0.C.length y2, .slice x3 T0.E.length y3] 28)) X2.heap.size) := HT11.out.step hal
  have HW12 : Hid (Below w.heap.size w (w11.alloc (.cells #[.slice x1 T0.K.length y1, .slice x2 T0.C.length y2, .slice x3 T0.E.length y3] 28))) := HW11.out.trans (hal.mono HW11.out.size)
  clear hal vx1 vx2 vx3 HT11 HW11
  obtain ⟨z0, z1, z2⟩ := HX12.out.c
  dsimp only at z0 z1 z2
  obtain ⟨t0, t1, t2⟩ := HT12.out.c
  dsimp only at t0 t1 t2
  go_wp2_with fail
  clear z0 z1 z2 t0 t1 t2
  refine (same_any T0.rep T0.rep x1 x2 x3 c1 c2 c3 y1 y2 y3 m1 m2 m3 _ HX12.out.h HT12.out.h).mono ?_
  rintro e w13 ⟨bb, ⟨rfl, hsm⟩, hb13⟩
  obtain rfl : bb = true := hsm.2 (same_refl _)
  have HW13 : Hid (Below w.heap.size w w13) := HW12.out.trans (hb13.mono HW12.out.size)
  clear hsm hb13 HX12 HT12 HW12
  have hzA := str_size A; have hzB := str_size B; have hlAB := HST.out.len
  have p1 : (((str A).size : Int) != ((str B).size : Int)) = false := by simp; omega
  have p2 : ((str A).toList == (str B).toList) = false := by rw [str_toList, str_toList, beq_eq_false_iff_ne]; exact HST.out.ne
  have p3 : (str A == str B) = false := ba_beq (fun e => HST.out.ne (by have := congrArg ByteArray.toList e; rw [str_toList, str_toList] at this; exact this))
  clear hzA hzB hlAB
  have hal : Below w13.heap.size w13 (w13.alloc (.cells #[.string (str B), .string (str C)] 9)) := (Below.refl _ _).alloc (Nat.le_refl _) _
  have HLI : Hid (Lies (w13.alloc (.cells #[.string (str B), .string (str C)] 9)) (some ⟨w13.heap.size, 0, none⟩) 2 1 (fun i => [.string (str ([B, C].getD i []))])) := lies_lit w13 [B, C]
  have HWx : Hid (Below w.heap.size w (w13.alloc (.cells #[.string (str B), .string (str C)] 9))) := HW13.out.trans (hal.mono HW13.out.size)
  clear hal HW13
  go_wp2_with fail
  refine (preplay_any [B, C] (some ⟨w13.heap.size, 0, none⟩) 2 2 _ HLI.out rfl (fun v hv => by have := HSA.out; have := HSM.out; simp at hv; rcases hv with rfl | rfl <;> omega) (by omega)).mono ?_
  rintro e w14 ⟨⟨i1, o1, j1, i2, o2, j2, i3, o3, j3, rfl, -⟩, hb14⟩
  rw [HST.out.two]
  have HW14 : Hid (Below w.heap.size w (w14.alloc (.cells #[.slice i1 o1 j1, .slice i2 o2 j2, .slice i3 o3 j3] 28))) := by have h := HWx.out.trans (hb14.mono HWx.out.size); exact h.alloc h.size _
  clear hb14 HWx HLI
  have HLI : Hid (Lies ((w14.alloc (.cells #[.slice i1 o1 j1, .slice i2 o2 j2, .slice i3 o3 j3] 28)).alloc (.cells #[.string (str C), .string (str B)] 9)) (some ⟨(w14.alloc (.cells #[.slice i1 o1 j1, .slice i2 o2 j2, .slice i3 o3 j3] 28)).heap.size, 0, none⟩) 2 1 (fun i => [.string (str ([C, B].getD i []))])) := lies_lit (w14.alloc (.cells #[.slice i1 o1 j1, .slice i2 o2 j2, .slice i3 o3 j3] 28)) [C, B]
  have HWx : Hid (Below w.heap.size w ((w14.alloc (.cells #[.slice i1 o1 j1, .slice i2 o2 j2, .slice i3 o3 j3] 28)).alloc (.cells #[.string (str C), .string (str B)] 9))) := HW14.out.alloc HW14.out.size _
  have HSZ : Hid ((w14.alloc (.cells #[.slice i1 o1 j1, .slice i2 o2 j2, .slice i3 o3 j3] 28)).heap.size = w14.heap.size + 1) := by show _ = _; simp
  go_wp2_with fail
  rw [HSZ.out] at HLI
  refine (preplay_any [C, B] (some ⟨w14.heap.size + 1, 0, none⟩) 2 2 _ HLI.out rfl (fun v hv => by have := HSA.out; have := HSM.out; simp at hv; rcases hv with rfl | rfl <;> omega) (by omega)).mono ?_
  rintro e w15 ⟨⟨r1, s1, t1, r2, s2, t2, r3, s3, t3, rfl, -⟩, hb15⟩
  rw [HST.out.one]
  have HW15 : Hid (Below w.heap.size w w15) := HWx.out.trans (hb15.mono HWx.out.size)
  clear hb15 HWx HLI HW14 HSZ
  go_wp2_with fail
  refine (volumes_any size _ HS.out).mono ?_
  rintro e w16 ⟨rfl, hw16⟩
  obtain rfl : w15 = w16 := hw16.symm
  clear hw16
  obtain ⟨e1, e2⟩ := split_ok (b := A) size HSA.out.1
  obtain ⟨e3, e4⟩ := split_ok (b := B) size HSA.out.2
  obtain ⟨u1, u2, u3⟩ := roomN_range size
  have HE1 : Hid (splitL A (volN size) = volsB (roomN size) A) := e1
  have HE2 : Hid (splitE A (volN size) = 0) := e2
  have HE3 : Hid (splitL B (volN size) = volsB (roomN size) B) := e3
  have HE4 : Hid (splitE B (volN size) = 0) := e4
  have HR1 : Hid (26 ≤ roomN size) := u1
  have HR2 : Hid (roomN size ≤ 3986) := u2
  clear e1 e2 e3 e4 u1 u2 u3
  generalize roomN size = m at *
  go_wp2_with fail
  refine (psplit_any A (volN size) _ (by have := HSA.out; omega)).mono ?_
  rintro e w17 ⟨ad, cap, N, rfl, hN, hv, hb17⟩
  rw [HE1.out] at hN hv
  rw [HE2.out]
  rw [vols_len] at hN
  have HN : Hid (N = cntB m A.length) := hN
  have HV17 : Hid (Vec w17 w15.heap.size 9 1 ad N cap (strs (volsB m A))) := hv
  have HW17 : Hid (Below w.heap.size w w17 ∧ w.heap.size ≤ w15.heap.size) := ⟨HW15.out.trans (hb17.mono HW15.out.size), HW15.out.size⟩
  clear hN hv hb17
  go_wp2_with fail
  refine (volumes_any size _ HS.out).mono ?_
  rintro e w18 ⟨rfl, hw18⟩
  obtain rfl : w17 = w18 := hw18.symm
  clear hw18
  go_wp2_with fail
  refine (psplit_any B (volN size) _ (by have := HSA.out; omega)).mono ?_
  rintro e w19 ⟨ad2, cap2, N2, rfl, hN2, hv2, hb19⟩
  rw [HE3.out] at hN2 hv2
  rw [HE4.out]
  rw [vols_len, HST.out.len, ← HN.out] at hN2
  subst hN2
  have HB19 : Hid (Below w17.heap.size w17 w19) := hb19
  have HW19 : Hid (Below w.heap.size w w19) := HW17.out.1.trans (hb19.mono HW17.out.1.size)
  have HNA : Hid (N2 = (volsB m A).length) := by show _ = _; rw [vols_len]; exact HN.out
  have HNB : Hid (N2 = (volsB m B).length) := by show _ = _; rw [vols_len, HST.out.len]; exact HN.out
  have HVB : Hid (Vec w19 w17.heap.size 9 1 ad2 N2 cap2 (strs (volsB m B))) := hv2
  clear hv2 hb19
  have hN0 : 0 < N2 := by rw [HN.out]; exact cnt_pos m A.length (by have := HR1.out; omega)
  have hN1 : N2 < 256 := by rw [HN.out]; exact cnt_small m A.length HR1.out HSA.out.1
  have k0 : ((N2 : Int) != (N2 : Int)) = false := by simp
  have k1' : ((N2 : Int) == 0) = false := by rw [beq_eq_false_iff_ne]; omega
  by_cases hN2 : N2 = 1
  · have q3 : ((N2 : Int) == 1) = true := by rw [hN2]; rfl
    clear hN2
    go_wp2_with fail
    go_ret
    exact ⟨rfl, HW19.out⟩
  · have q3 : ((N2 : Int) == 1) = false := by rw [beq_eq_false_iff_ne]; omega
    have HN2 : Hid (1 < N2) := by show _ < _; omega
    clear hN2
    go_wp2_with fail
    obtain ⟨pp1, pp2⟩ := pickI_lt which (N2 : Int) (by omega)
    obtain ⟨i, hi⟩ : ∃ i : Nat, pickI which (N2 : Int) = (i : Int) := ⟨(pickI which (N2 : Int)).toNat, by omega⟩
    have hiN : i < N2 := by omega
    have HI : Hid (pickI which (N2 : Int) = (i : Int)) := hi
    clear pp1 pp2 hi
    refine (pick_any which (N2 : Int) _ HWH.out (by omega) (by omega)).mono ?_
    rintro e w20 ⟨rfl, hw20⟩
    obtain rfl : w19 = w20 := hw20.symm
    clear hw20
    rw [HI.out]
    obtain ⟨bc, oc, hblc, hixc, hcc⟩ := (strs_lies HVB.out HNB.out).at cap2 (P := Try.prog) (t := 33) (by kernel_rfl) (by kernel_rfl) hiN
    have cc : w19.cell? ⟨bc, oc, none⟩ = some (.string (str ((volsB m B).getD i []))) := hcc 0 _ (by omega) rfl
    have HV19 : Hid (Vec w19 w15.heap.size 9 1 ad N2 cap (strs (volsB m A))) := HV17.out.keep HB19.out
    obtain ⟨g, hgd, hgB, hgl, hix, hcg, hfz, hst⟩ := HV19.out.cell1 (P := Try.prog) (t := 33) (by kernel_rfl) (by kernel_rfl) hiN (i : Int) rfl
    have hcg2 : w19.cell? ⟨g, i, none⟩ = some (.string (str ((volsB m A).getD i []))) := by
      rw [hcg, strs_at (by rw [← HNA.out]; exact hiN)]
    have HJX : Hid (joinRd ((volsB m A).set i ((volsB m B).getD i [])) = ⟨[], 14, if i = 0 then 1 else i⟩) := join_mixed HR1.out HSA.out.1 HST.out.len HST.out.sum (by rw [← HN.out]; exact HN2.out) (by rw [← HN.out]; exact hiN)
    have HMC : Hid ((volsB m B).getD i [] ∈ volsB m B) := volAt_mem (by rw [← HNB.out]; exact hiN)
    have HSTT : Hid (∀ x : List UInt8, Vec (w19.setCell ⟨g, i, none⟩ (.string (str x))) w15.heap.size 9 1 ad N2 cap (strs ((volsB m A).set i x))) := fun x => by rw [← strs_set]; exact hst _
    have HU : Hid (∀ x : List UInt8, Below w.heap.size w (w19.setCell ⟨g, i, none⟩ (.string (str x)))) := fun x => ((Upd.refl g w19).setCell _ rfl _).below HW19.out (Nat.le_trans HW17.out.2 hgB)
    have HVL : Hid (((volsB m B).getD i []).length ≤ 34359738368) := by have := vols_short HMC.out; have := HR2.out; show _ ≤ _; omega
    have HSHA : Hid (∀ v, v ∈ volsB m A → v.length ≤ 34359738368) := fun v hv => by have := vols_short hv; have := HR2.out; omega
    clear hcc hcg hst hgd
    generalize (volsB m B).getD i [] = vc at *
    generalize (volsB m A).getD i [] = vi at *
    by_cases hi0 : i = 0
    · have q7 : ((i : Int) == 0) = true := by rw [hi0]; rfl
      have HI0 : Hid (i = 0) := hi0
      clear hi0
      go_wp2_with fail
      have hv14 := HSTT.out vc
      have hb14 := HU.out vc
      generalize w19.setCell ⟨g, i, none⟩ (.string (str vc)) = w21 at *
      have HN14 : Hid (N2 = ((volsB m A).set i vc).length) := by show _ = _; rw [List.length_set]; exact HNA.out
      have HV14 : Hid (Vec w21 w15.heap.size 9 1 ad N2 cap (strs ((volsB m A).set i vc))) := hv14
      have HB14 : Hid (Below w.heap.size w w21) := hb14
      clear hv14 hb14 HSTT HU hixc cc hcg2 hix hfz
      refine (pjoin_any ((volsB m A).set i vc) ad N2 cap _ (strs_lies HV14.out HN14.out) HN14.out (fun v hv => by rcases List.mem_or_eq_of_mem_set hv with h | h; (exact HSHA.out v h); (rw [h]; exact HVL.out)) (by omega)).mono ?_
      rintro e w22 ⟨rfl, hb22⟩
      rw [HJX.out, if_pos HI0.out]
      have HB22 : Hid (Below w.heap.size w w22) := HB14.out.trans (hb22.mono HB14.out.size)
      clear hb22
      go_wp2_with fail
      go_ret
      exact ⟨by first | rfl | simp, HB22.out⟩
    · have q7 : ((i : Int) == 0) = false := by rw [beq_eq_false_iff_ne]; omega
      have HI0 : Hid (¬ i = 0) := hi0
      clear hi0
      go_wp2_with fail
      have hv14 := HSTT.out vc
      have hb14 := HU.out vc
      generalize w19.setCell ⟨g, i, none⟩ (.string (str vc)) = w21 at *
      have HN14 : Hid (N2 = ((volsB m A).set i vc).length) := by show _ = _; rw [List.length_set]; exact HNA.out
      have HV14 : Hid (Vec w21 w15.heap.size 9 1 ad N2 cap (strs ((volsB m A).set i vc))) := hv14
      have HB14 : Hid (Below w.heap.size w w21) := hb14
      clear hv14 hb14 HSTT HU hixc cc hcg2 hix hfz
      refine (pjoin_any ((volsB m A).set i vc) ad N2 cap _ (strs_lies HV14.out HN14.out) HN14.out (fun v hv => by rcases List.mem_or_eq_of_mem_set hv with h | h; (exact HSHA.out v h); (rw [h]; exact HVL.out)) (by omega)).mono ?_
      rintro e w22 ⟨rfl, hb22⟩
      rw [HJX.out, if_neg HI0.out]
      have HB22 : Hid (Below w.heap.size w w22) := HB14.out.trans (hb22.mono HB14.out.size)
      clear hb22
      go_wp2_with fail
      go_ret
      exact ⟨by first | rfl | simp, HB22.out⟩
end Go.Proofs.Ytdjpkgaicmklmab

/- A chain that grows as more writes are seen: without the program; and what its loop keeps in memory. -/
namespace Go.Proofs.Ytdjpkgaicmklmab
open Go.RowKit

/-- What has been seen, by a row of eight counts. -/
abbrev cntS (nw : Nat) (fw : Nat → Wr) (c : List Int) : Seen := ⟨nw, fw, 8, fun k => c.getD k 0⟩
structure CntOk (c : List Int) : Prop where
  len : c.length = 8
  lo : ∀ k, 0 ≤ c.getD k 0
  hi : ∀ k, c.getD k 0 < 60
theorem cnt_lim {nw : Nat} {fw : Nat → Wr} {c : List Int} (h : CntOk c) (k : Nat) (hk : k < 8) : limS (cntS nw fw c) k = c.getD k 0 := by
  show seenI 8 (fun k => c.getD k 0) k = _
  unfold seenI
  rw [if_pos hk]
  exact pick_same (h.lo k) (h.hi k)
theorem cnts_pos {nw : Nat} {fw : Nat → Wr} {c : List Int} (k : Nat) : 0 ≤ limS (cntS nw fw c) k := (seen_range _ _ _).1
theorem cnt_zero_at (k : Nat) : (List.replicate 8 (0 : Int)).getD k 0 = 0 := by
  by_cases h : k < 8
  · rw [List.getD_eq_getElem?_getD, List.getElem?_replicate, if_pos h]; rfl
  · rw [List.getD_eq_getElem?_getD, List.getElem?_replicate, if_neg h]; rfl
theorem cnt_zero : CntOk (List.replicate 8 0) := ⟨rfl, fun k => by rw [cnt_zero_at]; exact Int.le_refl _, fun k => by rw [cnt_zero_at]; decide⟩
theorem getD_set' {c : List Int} {k : Nat} {x : Int} (hk : k < c.length) (j : Nat) : (c.set k x).getD j 0 = if j = k then x else c.getD j 0 := by
  by_cases e : j = k
  · subst e; simp [List.getD, hk]
  · rw [if_neg e]; simp [List.getD, List.getElem?_set_ne (Ne.symm e)]
theorem CntOk.set {c : List Int} (h : CntOk c) {k : Nat} (hk : k < 8) {x : Int} (h0 : 0 ≤ x) (h1 : x < 60) : CntOk (c.set k x) :=
  ⟨by rw [List.length_set]; exact h.len, fun j => by rw [getD_set' (by rw [h.len]; exact hk)]; split; (exact h0); (exact h.lo j), fun j => by rw [getD_set' (by rw [h.len]; exact hk)]; split; (exact h1); (exact h.hi j)⟩
/-- By counts no less. -/
def CntLe (c d : List Int) : Prop := ∀ k, k < 8 → c.getD k 0 ≤ d.getD k 0
theorem CntLe.set {c : List Int} (h : CntOk c) {k : Nat} (hk : k < 8) {x : Int} (hx : c.getD k 0 ≤ x) : CntLe c (c.set k x) := fun j _ => by
  rw [getD_set' (by rw [h.len]; exact hk)]; split
  · rename_i e; rw [e]; exact hx
  · exact Int.le_refl _

/-- A chain that makes the replica that was handed in last. -/
structure Grown (nw : Nat) (fw : Nat → Wr) (ii : Nat) (c : List Int) (bs : List (List UInt8)) (T : Tri) : Prop where
  cnt : CntOk c
  lk : Links bs
  st : chainSt bs (bs.length - 1) = T
  tri : ∃ D : List Ed, D.length ≤ 8 ∧ EdOk D ∧ T = triS (cntS nw fw c) ii D
  chk : T.rep.chk = 0
  sml : ∀ b, b ∈ bs → b.length ≤ 7000
theorem grown_one {nw : Nat} {fw : Nat → Wr} {ii : Nat} (hi : ii ≤ 40) {c : List Int} (hc : CntOk c) {D : List Ed} (hD : D.length ≤ 8) (hD2 : EdOk D) :
    Grown nw fw ii c [bundleB (recsOf 0 0 (triS (cntS nw fw c) ii D).rep)] (triS (cntS nw fw c) ii D) := by
  have ck := triS_chk (cntS nw fw c) ii hi D (by omega) hD2
  obtain ⟨l1, c1⟩ := links_one ck
  rw [tri_of] at c1
  refine ⟨hc, l1, c1, ⟨D, hD, hD2, rfl⟩, ck, fun b hb => ?_⟩
  have := bundle_small ck
  simp at hb; subst hb; omega
theorem bundle_ne {R : Rep} (s b : Int) : bundleB (recsOf s b R) ≠ [] := by
  intro e
  have := congrArg List.length e
  unfold bundleB at this
  rw [List.length_append] at this
  have h4 : (fourI (crc pSeal (bodyB (recsOf s b R)))).length = 4 := fourI_len _
  simp only [List.length_nil] at this
  omega
/-- One step more. -/
theorem Grown.next {nw : Nat} {fw : Nat → Wr} {ii : Nat} (hi : ii ≤ 40) {c d : List Int} {bs : List (List UInt8)} {T : Tri} (h : Grown nw fw ii c bs T) (hn : bs.length < 16) (hd : CntOk d) (hle : CntLe c d) {D : List Ed} (hD : D.length ≤ 8) (hD2 : EdOk D) :
    ∃ b, b ≠ [] ∧ (∀ l : List (List UInt8), l.Perm bs → extendRd l (triS (cntS nw fw d) ii D) = ⟨b, 0, 0⟩) ∧ Grown nw fw ii d (bs ++ [b]) (triS (cntS nw fw d) ii D) := by
  have ck := triS_chk (cntS nw fw d) ii hi D (by omega) hD2
  obtain ⟨D0, _, _, e0⟩ := h.tri
  have hless : Less (cntS nw fw c) (cntS nw fw d) := ⟨rfl, fun k hk => by rw [cnt_lim h.cnt k hk, cnt_lim hd k hk]; exact hle k hk, fun k => cnts_pos k, fun k => cnts_pos k⟩
  have hf : followB (chainSt bs (bs.length - 1)) (triS (cntS nw fw d) ii D) = true := by rw [h.st, e0]; exact less_follows hless ii D0 D
  have ho : (chainSt bs (bs.length - 1)).rep.chk = 0 := by rw [h.st]; exact h.chk
  obtain ⟨l2, c2⟩ := links_next h.lk hn ho ck hf
  have hs := next_small (n := bs.length) (by omega) (last := bs.getD (bs.length - 1) []) (o := chainSt bs (bs.length - 1)) ck
  refine ⟨_, bundle_ne _ _, fun l hp => extend_links h.lk hp hn ho ck hf, hd, l2, ?_, ⟨D, hD, hD2, rfl⟩, ck, fun b hb => ?_⟩
  · rw [List.length_append, List.length_singleton, Nat.add_sub_cancel]; exact c2
  · rcases List.mem_append.1 hb with h1 | h1
    · exact h.sml b h1
    · simp at h1; subst h1; exact hs
theorem Grown.replay {nw : Nat} {fw : Nat → Wr} {ii : Nat} {c : List Int} {bs : List (List UInt8)} {T : Tri} (h : Grown nw fw ii c bs T) {l : List (List UInt8)} (hp : l.Perm bs) : replayRd l = ⟨0, 0, 0, 0, T.K, T.C, T.E⟩ := by
  have := replay_links h.lk hp (by rw [h.st]; exact h.chk)
  rw [h.st] at this; exact this
/-- An older one is refused. -/
theorem Grown.older {nw : Nat} {fw : Nat → Wr} {ii : Nat} (hi : ii ≤ 40) {c : List Int} {bs : List (List UInt8)} {T : Tri} (h : Grown nw fw ii c bs T) (hn : bs.length < 16) :
    (extendRd bs (triS (cntS nw fw (List.replicate 8 0)) ii [])).err = if T.K.length = 0 then 0 else 18 := by
  have ck := triS_chk (cntS nw fw (List.replicate 8 0)) ii hi [] (by simp) (by intro x hx; cases hx)
  obtain ⟨D0, _, _, e0⟩ := h.tri
  have hz := nothing_follows (S := cntS nw fw c) (Z := cntS nw fw (List.replicate 8 0)) ii (fun k hk => by rw [cnt_lim cnt_zero k hk]; exact cnt_zero_at k) (fun k => cnts_pos k) D0 []
  rw [← e0] at hz
  have e := h.replay (List.Perm.refl _)
  have e1 : (replayRd bs).err = 0 := by rw [e]
  have e2 : (replayRd bs).st = T := by rw [e]; rfl
  unfold extendRd
  rw [if_pos e1, e2, if_neg (by omega), if_pos ck]
  by_cases h0 : T.K.length = 0
  · rw [if_pos (by rw [hz]; exact decide_eq_true h0), if_pos h0]
  · rw [if_neg (by rw [hz, decide_eq_false h0]; decide), if_neg h0]
theorem short_of {nw : Nat} {fw : Nat → Wr} {ii : Nat} {c : List Int} {bs : List (List UInt8)} {T : Tri} (h : Grown nw fw ii c bs T) {l : List (List UInt8)} (hp : l.Perm bs) : ∀ v, v ∈ l → v.length ≤ 1048576 := fun v hv => by have := h.sml v (hp.mem_iff.mp hv); omega

/-- A row of numbers of the call's own, as a variable. -/
abbrev ints (c : List Int) : List Value := c.map fun x => .int .i64 x
theorem irows_flat (c : List Int) : (irows c).flatten = ints c := by induction c with
  | nil => rfl
  | cons x c ih => simp only [irows, ints, List.map_cons, List.flatten_cons] at *; rw [ih]; rfl
theorem irows_bx {w : World} {g e : Nat} {c : List Int} (h : Own w g e 1 (irows c)) : Bx w g e (ints c) := ⟨by have := h.block; rw [irows_flat] at this; exact this⟩
theorem bx_irows {w : World} {g e : Nat} {c : List Int} (h : Bx w g e (ints c)) : Own w g e 1 (irows c) := ⟨by intro r hr; obtain ⟨y, _, rfl⟩ := List.mem_map.1 hr; rfl, by rw [irows_flat]; exact h.h⟩
theorem ints_set (c : List Int) (k : Nat) (x : Int) : (ints c).set k (.int .i64 x) = ints (c.set k x) := by rw [ints, ints, List.map_set]
theorem ints_at {c : List Int} {k : Nat} (h : k < c.length) : (ints c)[k]? = some (.int .i64 (c.getD k 0)) := by simp [ints, List.getD, h]
theorem ints_ns {w : World} {g : Nat} {c : List Int} (h : Bx w g 3 (ints c)) (hc : CntOk c) : Ns w (some ⟨g, 0, none⟩) 8 (fun k => c.getD k 0) :=
  ⟨(bx_irows h).lies 8 _ (by simp [irows, hc.len]) (fun i hi => by simp [irows, List.getD, hc.len, hi]), by omega, fun i _ => by have := hc.lo i; have := hc.hi i; exact ⟨by omega, by omega⟩⟩

/-- Another variable is written. -/
theorem Bx.ne {w : World} {g h e e' : Nat} {cs ds : List Value} (a : Bx w g e cs) (b : Bx w h e' ds) (he : e ≠ e') : g ≠ h := by
  intro q; subst q
  have := a.h.symm.trans b.h
  simp at this; exact he this.2
theorem Vec.other {w w' : World} {B e e' m g : Nat} {ad : Option Addr} {n cap : Nat} {xs cs : List Value} (h : Vec w B e m ad n cap xs) (b : Bx w g e' cs) (hu : Upd g w w') (he : e ≠ e') : Vec w' B e m ad n cap xs :=
  h.updo hu (fun x hx e1 => b.apart h he (by rw [hx]; simp [e1]))
theorem Rv.Ok.other {w w' : World} {B e' g : Nat} {cs : List Value} {v : Rv} (h : v.Ok w B) (b : Bx w g e' cs) (hu : Upd g w w') (h0 : 28 ≠ e') (h1 : 72 ≠ e') (h2 : 68 ≠ e') (h3 : 61 ≠ e') : v.Ok w' B :=
  ⟨h.b.upd hu (h.b.ne b h0), ⟨h.l.v1.other b hu h1, h.l.v2.other b hu h2, h.l.v3.other b hu h3, h.l.e1, h.l.e2, h.l.e3⟩, h.few, h.lo⟩
theorem Rv.Ok.grs {w w' : World} {B Be e m : Nat} {v : Rv} {ad : Option Addr} {n cap : Nat} {xs : List Value} (h : v.Ok w B) (hv : Vec w Be e m ad n cap xs) (hg : w.grownBy w' (ad.map (·.block))) (h0 : e ≠ 28) (h1 : 72 ≠ e) (h2 : 68 ≠ e) (h3 : 61 ≠ e) : v.Ok w' B :=
  ⟨h.b.gr hg (h.b.apart hv h0), ⟨h.l.v1.gr hg (fun b hb e => h.l.v1.apart hv h1 b hb e), h.l.v2.gr hg (fun b hb e => h.l.v2.apart hv h2 b hb e), h.l.v3.gr hg (fun b hb e => h.l.v3.apart hv h3 b hb e), rfl, rfl, rfl⟩, h.few, h.lo⟩

/-- What Chained's loop keeps: the counts, the first replica, the last, the chain. -/
structure Ch (w wr : World) (gn : Nat) (c : List Int) (vo vr : Rv) (ad : Option Addr) (N cap : Nat) (bs : List (List UInt8)) : Prop where
  n : Bx wr gn 3 (ints c)
  o : vo.Ok wr w.heap.size
  r : vr.Ok wr w.heap.size
  l : Vec wr w.heap.size 9 1 ad N cap (strs bs)
  old : Below w.heap.size w wr
  lo : w.heap.size ≤ gn
  ne : vo.g ≠ vr.g
theorem Ch.step {w wr X : World} {gn : Nat} {c : List Int} {vo vr : Rv} {ad : Option Addr} {N cap : Nat} {bs : List (List UInt8)} (h : Ch w wr gn c vo vr ad N cap bs) (hb : Below wr.heap.size wr X) : Ch w X gn c vo vr ad N cap bs :=
  ⟨h.n.below hb h.n.lt, h.o.step hb, h.r.step hb, h.l.keep hb, h.old.trans (hb.mono h.old.size), h.lo, h.ne⟩
theorem Ch.count {w wr X : World} {gn : Nat} {c : List Int} {vo vr : Rv} {ad : Option Addr} {N cap : Nat} {bs : List (List UInt8)} (h : Ch w wr gn c vo vr ad N cap bs) {d : List Int} (hd : Bx X gn 3 (ints d)) (hu : Upd gn wr X) : Ch w X gn d vo vr ad N cap bs :=
  ⟨hd, h.o.other h.n hu (by decide) (by decide) (by decide) (by decide), h.r.other h.n hu (by decide) (by decide) (by decide) (by decide), h.l.other h.n hu (by decide), hu.below h.old h.lo, h.lo, h.ne⟩
/-- The last replica is another. -/
theorem Ch.last {w wr X : World} {gn : Nat} {c : List Int} {vo vr : Rv} {ad : Option Addr} {N cap : Nat} {bs : List (List UInt8)} (h : Ch w wr gn c vo vr ad N cap bs) (v : Rv) (hv : v.g = vr.g) (hb : Bx X v.g 28 v.cells) (hL : Lists wr w.heap.size v.T.K v.T.C v.T.E v.a1 v.T.K.length v.k1 v.a2 v.T.C.length v.k2 v.a3 v.T.E.length v.k3) (hf : v.T.K.length ≤ 1000 ∧ v.T.C.length ≤ 1000 ∧ v.T.E.length ≤ 1000) (hu : Upd vr.g wr X) : Ch w X gn c vo v ad N cap bs :=
  ⟨h.n.upd hu (h.n.ne h.r.b (by decide)), h.o.put h.r.b hu h.ne, ⟨hb, hL.put h.r.b hu, hf, by rw [hv]; exact h.r.lo⟩, h.l.other h.r.b hu (by decide), hu.below h.old h.r.lo, h.lo, by rw [hv]; exact h.ne⟩
theorem Ch.push {w wr X : World} {gn : Nat} {c : List Int} {vo vr : Rv} {ad ad' : Option Addr} {N N' cap cap' : Nat} {bs bs' : List (List UInt8)} (h : Ch w wr gn c vo vr ad N cap bs) (hv : Vec X w.heap.size 9 1 ad' N' cap' (strs bs')) (hg : wr.grownBy X (ad.map (·.block))) : Ch w X gn c vo vr ad' N' cap' bs' :=
  ⟨h.n.gr hg (h.n.apart h.l (by decide)), h.o.grs h.l hg (by decide) (by decide) (by decide) (by decide), h.r.grs h.l hg (by decide) (by decide) (by decide) (by decide), hv, h.old.grown hg h.old.size (fun k hk => (blk_lo h.l k hk).1), h.lo, h.ne⟩
end Go.Proofs.Ytdjpkgaicmklmab

