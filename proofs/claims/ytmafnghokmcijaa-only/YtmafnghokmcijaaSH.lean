/- parcelkeep.records, walked: what a bundle's records are and where, and how long it is. -/
import Derived.Test.YtmafnghokmcijaaSG
import Derived.Test.YtmafnghokmcijaaV2
import Derived.BigQuiet
import Derived.Deep.QuietTactic
namespace Go.Proofs.Ytmafnghokmcijaa
open Go.RowKit

/-- Each block but the list's own is as it was. -/
def Kept (ad : Option Addr) (w w' : World) : Prop := ∀ k, k < w.heap.size → (∀ b, ad = some b → b.block ≠ k) → w'.heap[k]? = w.heap[k]?

section
variable {P : Program} {w : World} {ops : Array Oper} {rest : List Oper} {o : Oper} {a : Act} {Q : Exit → Act → World → Prop}

/-- 'l = append(l, x)', and what is elsewhere stays. -/
theorem wpList_push2 (hgd : o.guard = none) (s x : Operand) (t : TypeId) (ho : o.op = .call { callee := .builtin .append, args := #[s, x], argTypes := #[t, t] })
    (B e m bytes : Nat) (z : Value) (ht : P.underlying t = some (.slice e)) (hinfo : (P.info? e).map (fun i => (i.zero, i.size, i.bytes)) = some (some z, m, bytes)) (hzs : z.cells.size = m) (hm : 0 < m)
    (ad : Option Addr) (n cap : Nat) (xs : List Value) (hs : a.eval s = .slice ad n cap) (hown : Vec w B e m ad n cap xs)
    (ad1 : Addr) (c : Nat) (row : List Value) (hx : a.eval x = .slice (some ad1) 1 c) (hl : row.length = m) (hnews : ∀ j u, row[j]? = some u → w.cell? (ad1.add j) = some u) (h1 : ∀ u, u ∈ row → u.oneCell' = true)
    (hbytes : (n + 1) * bytes ≤ 140737488355328) (hn : n < 9223372036854775807) (hB : B ≤ w.heap.size)
    (h : ∀ ad' cap' w', Vec w' B e m ad' (n + 1) cap' (xs ++ row) → Below B w w' → Kept ad w w' → wpList P ops Q rest (a.put o.dst (.slice ad' (n + 1) cap')) w') : wpList P ops Q (o :: rest) a w := by
  obtain ⟨i, hi, hzz⟩ := Option.map_eq_some_iff.1 hinfo
  simp only [Prod.mk.injEq] at hzz
  obtain ⟨hz, hsz, hby⟩ := hzz
  refine wpList_append_lies w hgd s x t ho B e i z m bytes ht hi hz hsz hby hzs hm (.slice ad n cap) n xs hs hown ad1 1 c row hx (by rw [hl, Nat.one_mul]) hnews h1 (by omega) (by unfold maxLen; omega) hbytes hB w.heap.size rfl ?_
  intro g cap' w' ho' hgr _ _
  refine h (some ⟨g, 0, none⟩) cap' w' ho' ?_ ?_
  · exact (Below.refl _ _).grown hgr hB (fun k hk => (World.ownsRow.lt hown k hk).1)
  · intro k hk hne
    refine hgr.block k hk ?_
    cases ad with
    | none => simp [Value.ownBlock]
    | some b => simp [Value.ownBlock]; exact fun e => hne b rfl e.symm
end

/-- The variable's box is as it was behind the append. -/
theorem Kept.box {wr w' : World} {o1 o2 : Obj} {B e m : Nat} {ad : Option Addr} {n cap : Nat} {xs : List Value} (hk : Kept ad ((wr.alloc o1).alloc o2) w') (hv : Vec wr B e m ad n cap xs) : w'.heap[wr.heap.size]? = some o1 := by
  rw [hk wr.heap.size (by simp; omega) ?_]
  · show ((wr.heap.push o1).push o2)[wr.heap.size]? = _
    rw [Array.getElem?_push, if_neg (by simp), Array.getElem?_push, if_pos rfl]
  · intro b hb
    subst hb
    have := World.ownsRow.lt hv b.block rfl
    omega
theorem box_cell {w : World} {g : Nat} {cs : Array Value} {t : TypeId} (h : w.heap[g]? = some (.cells cs t)) (j : Nat) : w.cell? ⟨g, j, none⟩ = cs[j]? := by
  simp [World.cell?, h]

/-- A record at its place. -/
def Fd.put (f : Fd) (p : Nat) : Fd := { f with at_ := p }
/-- Records one directly behind the other, from a place on. -/
def atL : Nat → List Fd → List Fd
  | _, [] => []
  | p, f :: l => f.put p :: atL (p + lenF f) l
theorem atL_snoc (f : Fd) : ∀ (p : Nat) (l : List Fd), atL p (l ++ [f]) = atL p l ++ [f.put (p + lenL l)]
  | p, [] => by simp [atL, lenL]
  | p, g :: l => by
    simp only [List.cons_append, atL, atL_snoc f (p + lenF g) l]
    simp [lenL]
    congr 1; omega
theorem atL_length : ∀ (p : Nat) (l : List Fd), (atL p l).length = l.length
  | _, [] => rfl
  | p, f :: l => by simp [atL, atL_length (p + lenF f) l]
theorem ones9 (f : Fd) : ∀ v, v ∈ f.cells → v.oneCell' = true := by intro v h; simp at h; rcases h with rfl | rfl | rfl | rfl | rfl | rfl | rfl | rfl | rfl <;> rfl

set_option maxRecDepth 100000 in
set_option maxHeartbeats 4000000 in
theorem krecords_any (R : Rep) (a1 a2 a3 : Option Addr) (k1 k2 k3 : Nat) (w : World) (hR : Has w R a1 a2 a3) (hF : Fit R) :
    Calls Try.prog 20 #[repV R a1 a2 a3 k1 k2 k3] w fun e w' => ∃ ad cap N, (e = .returned (.tuple #[.slice ad N cap, .int .i64 (8 + lenL (recsOf 0 0 R) : Nat)]) ∧ N = (recsOf 0 0 R).length ∧ Vec w' w.heap.size 54 9 ad N cap (fcells (atL 4 (recsOf 0 0 R)))) ∧ Below w.heap.size w w' := by
  have m1 := hF.n1; have m2 := hF.n2; have m3 := hF.n3
  have h0 : BoxR w R a1 a2 a3 k1 k2 k3 (w.alloc (.cells #[.slice a1 R.n1 k1, .slice a2 R.n2 k2, .slice a3 R.n3 k3] 26)) := Below.refl _ _
  have z0 : w.heap.size + 1 ≤ (w.alloc (.cells #[.slice a1 R.n1 k1, .slice a2 R.n2 k2, .slice a3 R.n3 k3] 26)).heap.size := by simp
  have HV : Hid (Vec ((w.alloc (.cells #[.slice a1 R.n1 k1, .slice a2 R.n2 k2, .slice a3 R.n3 k3] 26)).alloc (.cells ((fdHead 0 0).put 4).cells.toArray 54)) (w.heap.size + 1) 54 9 (some ⟨w.heap.size + 1, 0, none⟩) 1 1 (fcells (atL 4 (recs1 0 0 R 0)))) := by
    have := Vec.lit (w.alloc (.cells #[.slice a1 R.n1 k1, .slice a2 R.n2 k2, .slice a3 R.n3 k3] 26)) (w.heap.size + 1) 54 9 1 ((fdHead 0 0).put 4).cells z0 (by omega) rfl
    rw [World.size_alloc] at this
    have e : fcells (atL 4 (recs1 0 0 R 0)) = ((fdHead 0 0).put 4).cells := by simp [recs1, atL, fcells]
    show Vec _ _ _ _ _ _ _ _
    rw [e]; exact this
  have HB : Hid (BoxR w R a1 a2 a3 k1 k2 k3 ((w.alloc (.cells #[.slice a1 R.n1 k1, .slice a2 R.n2 k2, .slice a3 R.n3 k3] 26)).alloc (.cells ((fdHead 0 0).put 4).cells.toArray 54))) := h0.alloc z0 _
  have HP : Hid (4 + lenL (recs1 0 0 R 0) = 13) := by show _ = _; simp [recs1, lenL, lenF_head]
  clear h0 z0
  go_enter Try.func20, Try.ntmps20
  go_wp2_with fail
  go_loopw [4, 5, 6, 7] (fun q v u _ wr => ∃ (k : Nat) (ad : Option Addr) (cap N P : Nat), k ≤ R.n1 ∧ u = .int .i64 k ∧ q = .int .i64 P ∧ v = .slice ad N cap ∧ N = 1 + k ∧ P ≤ 200 * N ∧ 4 + lenL (recs1 0 0 R k) = P ∧ Vec wr (w.heap.size + 1) 54 9 ad N cap (fcells (atL 4 (recs1 0 0 R k))) ∧ BoxR w R a1 a2 a3 k1 k2 k3 wr) (fun _ _ u _ _ => R.n1 - (intOf u).toNat)
  case atStart => exact ⟨0, _, _, 1, 13, Nat.zero_le _, rfl, rfl, rfl, rfl, by omega, HP.out, HV.out, HB.out⟩
  case round =>
    clear HV HB HP
    obtain ⟨k, ad, cap, N, P, hk, rfl, rfl, rfl, hN, hP, hL, hv, hb⟩ := hrel
    have HN : Hid (N = 1 + k) := hN
    have HL : Hid (4 + lenL (recs1 0 0 R k) = P) := hL
    have hNb : N ≤ 3000001 := by omega
    clear hN hL
    obtain ⟨x1, x2, x3⟩ := box3 hb
    have z1 : w.heap.size + 1 ≤ wr.heap.size := by have := hb.size; simpa using this
    by_cases hlt : k < R.n1
    · obtain ⟨bb, o, hbl, hix, c1, c2⟩ := (hR.below (below_box hb)).l1.clock k1 hlt
      obtain ⟨f1, f2⟩ := hF.c1 k hlt
      have HX : Hid (∀ o1 o2, Vec ((wr.alloc o1).alloc o2) (w.heap.size + 1) 54 9 ad N cap (fcells (atL 4 (recs1 0 0 R k)))) := fun o1 o2 => hv.keep (((Below.refl _ wr).alloc (Nat.le_refl _) _).alloc (by simp) _)
      go_wp2_with (at_builtin; refine wpList_push2 (by rfl) _ _ 47 (by rfl) (w.heap.size + 1) 54 9 80 (.agg #[.int .i64 0, .int .i64 0, .int .i64 0, .int .i64 0, .int .i64 0, .int .i64 0, .int .i64 0, .bool false, .string ⟨#[]⟩]) Try.underlying47 (by kernel_rfl) rfl (by decide) ad N cap _ (by rfl) (HX.out _ _) _ _ ((fdClock (R.c k)).put P).cells (by rfl) rfl ?_ ?_ ?_ ?_ ?_ ?_; exact new_cells2 _ _ _ _; exact ones9 _; (omega); (omega); (simp; omega); intro ad' cap' w' hv' hb' hk')
      have hbx := hk'.box hv
      have g0 := box_cell hbx 0
      have g1 := box_cell hbx 1
      simp only [List.getElem?_toArray, List.getElem?_cons_zero, List.getElem?_cons_succ] at g0 g1
      have h2 : BoxR w R a1 a2 a3 k1 k2 k3 w' := ((hb.alloc z1 _).alloc (by simp; omega) _).trans hb'
      have hv2 : Hid (Vec w' (w.heap.size + 1) 54 9 ad' (N + 1) cap' (fcells (atL 4 (recs1 0 0 R (k + 1))))) := by
        show Vec _ _ _ _ _ _ _ _
        rw [recs1_succ, atL_snoc, fcells_append, fcells_one, HL.out]; exact hv'
      have HL2 : Hid (4 + lenL (recs1 0 0 R (k + 1)) = P + lenF (fdClock (R.c k))) := by show _ = _; rw [recs1_succ, lenL_snoc, ← HL.out]; omega
      rw [lenF_clock] at HL2
      clear hv' hb' hk' hbx hv hb HX HL x1 x2 x3 c1 c2
      have i1 := bytesI_le 9 (R.c k).site
      have i2 := bytesI_le 9 (R.c k).count
      go_quiet ((go_at_call 47; first | exact Calls.quiet_of_same (bytes_any _ _ f1) | exact Calls.quiet_of_same (bytes_any _ _ f2)))
      go_wp2
      go_roundw
      case rel =>
        refine ⟨k + 1, ad', cap', N + 1, _, by omega, by go_num, ?_, rfl, by have := HN.out; omega, ?_, HL2.out, hv2.out.keep (below_drewN (Below.refl _ _) _), below_drewN h2 _⟩
        · exact congrArg (Value.int .i64) (by push_cast; omega)
        · omega
      case measure => simp [intOf]; omega
    · have HN2 : Hid (N = 1 + R.n1) := by have := HN.out; show _ = _; omega
      have HV2 : Hid (Vec wr (w.heap.size + 1) 54 9 ad N cap (fcells (atL 4 (recs2 0 0 R 0)))) := by
        show Vec _ _ _ _ _ _ _ _
        rw [recs2_zero, ← show k = R.n1 by omega]; exact hv
      have HL2 : Hid (4 + lenL (recs2 0 0 R 0) = P) := by show _ = _; rw [recs2_zero, ← show k = R.n1 by omega]; exact HL.out
      clear hv HN HL
      go_wp2_with fail
      go_loopw [4, 5, 8, 9] (fun q v u _ wr => ∃ (k : Nat) (ad : Option Addr) (cap N P : Nat), k ≤ R.n2 ∧ u = .int .i64 k ∧ q = .int .i64 P ∧ v = .slice ad N cap ∧ N = 1 + R.n1 + k ∧ P ≤ 200 * N ∧ 4 + lenL (recs2 0 0 R k) = P ∧ Vec wr (w.heap.size + 1) 54 9 ad N cap (fcells (atL 4 (recs2 0 0 R k))) ∧ BoxR w R a1 a2 a3 k1 k2 k3 wr) (fun _ _ u _ _ => R.n2 - (intOf u).toNat)
      case atStart => exact ⟨0, _, _, N, P, Nat.zero_le _, rfl, rfl, rfl, by have := HN2.out; omega, hP, HL2.out, HV2.out, hb⟩
      case round =>
        clear hb x1 x2 x3 z1 HN2 HL2 HV2 hP hNb hlt
        obtain ⟨k, ad, cap, N, P, hk, rfl, rfl, rfl, hN, hP, hL, hv, hb⟩ := hrel
        have HN : Hid (N = 1 + R.n1 + k) := hN
        have HL : Hid (4 + lenL (recs2 0 0 R k) = P) := hL
        have hNb : N ≤ 3000001 := by omega
        clear hN hL
        obtain ⟨x1, x2, x3⟩ := box3 hb
        have z1 : w.heap.size + 1 ≤ wr.heap.size := by have := hb.size; simpa using this
        by_cases hlt : k < R.n2
        · obtain ⟨bb, o, hbl, hix, c1, c2, c3, c4, c5⟩ := (hR.below (below_box hb)).l2.card k2 hlt
          obtain ⟨f1, f2, f3, f4⟩ := hF.d1 k hlt
          have HX : Hid (∀ o1 o2, Vec ((wr.alloc o1).alloc o2) (w.heap.size + 1) 54 9 ad N cap (fcells (atL 4 (recs2 0 0 R k)))) := fun o1 o2 => hv.keep (((Below.refl _ wr).alloc (Nat.le_refl _) _).alloc (by simp) _)
          go_wp2_with (at_builtin; refine wpList_push2 (by rfl) _ _ 47 (by rfl) (w.heap.size + 1) 54 9 80 (.agg #[.int .i64 0, .int .i64 0, .int .i64 0, .int .i64 0, .int .i64 0, .int .i64 0, .int .i64 0, .bool false, .string ⟨#[]⟩]) Try.underlying47 (by kernel_rfl) rfl (by decide) ad N cap _ (by rfl) (HX.out _ _) _ _ ((fdCard (R.d k)).put P).cells (by rfl) rfl ?_ ?_ ?_ ?_ ?_ ?_; exact new_cells2 _ _ _ _; exact ones9 _; (omega); (omega); (simp; omega); intro ad' cap' w' hv' hb' hk')
          have hbx := hk'.box hv
          have g0 := box_cell hbx 0
          have g1 := box_cell hbx 1
          have g2 := box_cell hbx 2
          have g3 := box_cell hbx 3
          have g4 := box_cell hbx 4
          simp only [List.getElem?_toArray, List.getElem?_cons_zero, List.getElem?_cons_succ] at g0 g1 g2 g3 g4
          have h2 : BoxR w R a1 a2 a3 k1 k2 k3 w' := ((hb.alloc z1 _).alloc (by simp; omega) _).trans hb'
          have hv2 : Hid (Vec w' (w.heap.size + 1) 54 9 ad' (N + 1) cap' (fcells (atL 4 (recs2 0 0 R (k + 1))))) := by
            show Vec _ _ _ _ _ _ _ _
            rw [recs2_succ, atL_snoc, fcells_append, fcells_one, HL.out]; exact hv'
          have HL2 : Hid (4 + lenL (recs2 0 0 R (k + 1)) = P + lenF (fdCard (R.d k))) := by show _ = _; rw [recs2_succ, lenL_snoc, ← HL.out]; omega
          rw [lenF_card] at HL2
          clear hv' hb' hk' hbx hv hb HX HL x1 x2 x3 c1 c2 c3 c4 c5
          have i1 := bytesI_le 9 (R.d k).id
          have i2 := bytesI_le 9 (R.d k).site
          have i3 := bytesI_le 9 (R.d k).count
          have ht : ((R.d k).text.size : Int) ≤ 60 := by omega
          go_quiet ((go_at_call 47; first | exact Calls.quiet_of_same (bytes_any _ _ f1) | exact Calls.quiet_of_same (bytes_any _ _ f2) | exact Calls.quiet_of_same (bytes_any _ _ f3)))
          go_wp2
          go_roundw
          case rel =>
            refine ⟨k + 1, ad', cap', N + 1, _, by omega, by go_num, ?_, rfl, by have := HN.out; omega, ?_, HL2.out, hv2.out.keep (below_drewN (Below.refl _ _) _), below_drewN h2 _⟩
            · exact congrArg (Value.int .i64) (by push_cast; omega)
            · omega
          case measure => simp [intOf]; omega
        · have HN2 : Hid (N = 1 + R.n1 + R.n2) := by have := HN.out; show _ = _; omega
          have HV2 : Hid (Vec wr (w.heap.size + 1) 54 9 ad N cap (fcells (atL 4 (recs3 0 0 R 0)))) := by
            show Vec _ _ _ _ _ _ _ _
            rw [recs3_zero, ← show k = R.n2 by omega]; exact hv
          have HL2 : Hid (4 + lenL (recs3 0 0 R 0) = P) := by show _ = _; rw [recs3_zero, ← show k = R.n2 by omega]; exact HL.out
          clear hv HN HL
          go_wp2_with fail
          go_loopw [4, 5, 10, 11] (fun q v u _ wr => ∃ (k : Nat) (ad : Option Addr) (cap N P : Nat), k ≤ R.n3 ∧ u = .int .i64 k ∧ q = .int .i64 P ∧ v = .slice ad N cap ∧ N = 1 + R.n1 + R.n2 + k ∧ P ≤ 200 * N ∧ 4 + lenL (recs3 0 0 R k) = P ∧ Vec wr (w.heap.size + 1) 54 9 ad N cap (fcells (atL 4 (recs3 0 0 R k))) ∧ BoxR w R a1 a2 a3 k1 k2 k3 wr) (fun _ _ u _ _ => R.n3 - (intOf u).toNat)
          case atStart => exact ⟨0, _, _, N, P, Nat.zero_le _, rfl, rfl, rfl, by have := HN2.out; omega, hP, HL2.out, HV2.out, hb⟩
          case round =>
            clear hb x1 x2 x3 z1 HN2 HL2 HV2 hP hNb hlt
            obtain ⟨k, ad, cap, N, P, hk, rfl, rfl, rfl, hN, hP, hL, hv, hb⟩ := hrel
            have HN : Hid (N = 1 + R.n1 + R.n2 + k) := hN
            have HL : Hid (4 + lenL (recs3 0 0 R k) = P) := hL
            have hNb : N ≤ 3000001 := by omega
            clear hN hL
            obtain ⟨x1, x2, x3⟩ := box3 hb
            have z1 : w.heap.size + 1 ≤ wr.heap.size := by have := hb.size; simpa using this
            by_cases hlt : k < R.n3
            · obtain ⟨bb, o, hbl, hix, c1, c2⟩ := (hR.below (below_box hb)).l3.edit k3 hlt
              obtain ⟨f1, f4⟩ := hF.e1 k hlt
              have HX : Hid (∀ o1 o2, Vec ((wr.alloc o1).alloc o2) (w.heap.size + 1) 54 9 ad N cap (fcells (atL 4 (recs3 0 0 R k)))) := fun o1 o2 => hv.keep (((Below.refl _ wr).alloc (Nat.le_refl _) _).alloc (by simp) _)
              go_wp2_with (at_builtin; refine wpList_push2 (by rfl) _ _ 47 (by rfl) (w.heap.size + 1) 54 9 80 (.agg #[.int .i64 0, .int .i64 0, .int .i64 0, .int .i64 0, .int .i64 0, .int .i64 0, .int .i64 0, .bool false, .string ⟨#[]⟩]) Try.underlying47 (by kernel_rfl) rfl (by decide) ad N cap _ (by rfl) (HX.out _ _) _ _ ((fdEdit (R.e k)).put P).cells (by rfl) rfl ?_ ?_ ?_ ?_ ?_ ?_; exact new_cells2 _ _ _ _; exact ones9 _; (omega); (omega); (simp; omega); intro ad' cap' w' hv' hb' hk')
              have hbx := hk'.box hv
              have g0 := box_cell hbx 0
              have g1 := box_cell hbx 1
              simp only [List.getElem?_toArray, List.getElem?_cons_zero, List.getElem?_cons_succ] at g0 g1
              have h2 : BoxR w R a1 a2 a3 k1 k2 k3 w' := ((hb.alloc z1 _).alloc (by simp; omega) _).trans hb'
              have hv2 : Hid (Vec w' (w.heap.size + 1) 54 9 ad' (N + 1) cap' (fcells (atL 4 (recs3 0 0 R (k + 1))))) := by
                show Vec _ _ _ _ _ _ _ _
                rw [recs3_succ, atL_snoc, fcells_append, fcells_one, HL.out]; exact hv'
              have HL2 : Hid (4 + lenL (recs3 0 0 R (k + 1)) = P + lenF (fdEdit (R.e k))) := by show _ = _; rw [recs3_succ, lenL_snoc, ← HL.out]; omega
              rw [lenF_edit] at HL2
              clear hv' hb' hk' hbx hv hb HX HL x1 x2 x3 c1 c2
              have i1 := bytesI_le 9 (R.e k).id
              have ht : ((R.e k).text.size : Int) ≤ 60 := by omega
              go_quiet ((go_at_call 47; first | exact Calls.quiet_of_same (bytes_any _ _ f1)))
              go_wp2
              go_roundw
              case rel =>
                refine ⟨k + 1, ad', cap', N + 1, _, by omega, by go_num, ?_, rfl, by have := HN.out; omega, ?_, HL2.out, hv2.out.keep (below_drewN (Below.refl _ _) _), below_drewN h2 _⟩
                · exact congrArg (Value.int .i64) (by push_cast; omega)
                · omega
              case measure => simp [intOf]; omega
            · have HN2 : Hid (N = 1 + R.n1 + R.n2 + R.n3) := by have := HN.out; show _ = _; omega
              have HV2 : Hid (Vec wr w.heap.size 54 9 ad N cap (fcells (atL 4 (recsOf 0 0 R)))) := by
                have h : Vec wr (w.heap.size + 1) 54 9 ad N cap (fcells (atL 4 (recs3 0 0 R R.n3))) := by rw [← show k = R.n3 by omega]; exact hv
                exact h.mono (by omega)
              have HL2 : Hid (8 + lenL (recsOf 0 0 R) = P + 4) := by
                have h : 4 + lenL (recs3 0 0 R R.n3) = P := by rw [← show k = R.n3 by omega]; exact HL.out
                show 8 + lenL (recs3 0 0 R R.n3) = P + 4
                omega
              clear hv HN HL
              go_wp2_with fail
              go_ret2
              exact ⟨ad, cap, N, ⟨by rw [HL2.out]; push_cast; rfl, by have := HN2.out; rw [recsOf_length]; omega, HV2.out⟩, below_box hb⟩
end Go.Proofs.Ytmafnghokmcijaa
