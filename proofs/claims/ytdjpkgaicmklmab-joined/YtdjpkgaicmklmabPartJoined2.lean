/- Texts of the proof, one behind the other; what each holds is said at its head. -/
import Derived.Test.YtdjpkgaicmklmabPartJoined0
import Derived.Test.YtdjpkgaicmklmabPartJoined1
import Derived.Deep.RegionHeld3
import Derived.OwnWalk
import Derived.Laws.Rows
/- A link's records in their order: the program's recordsOf, walked. -/
namespace Go.Proofs.Ytdjpkgaicmklmab
open Go.RowKit

/-- A record, as plain data. -/
structure Fd where
  at_ : Int
  kind : Int
  seq : Int
  base : Int
  id : Int
  site : Int
  count : Int
  gone : Bool
  text : ByteArray

abbrev Fd.cells (f : Fd) : List Value := [.int .i64 f.at_, .int .i64 f.kind, .int .i64 f.seq, .int .i64 f.base, .int .i64 f.id, .int .i64 f.site, .int .i64 f.count, .bool f.gone, .string f.text]
def fdHead (seq base : Int) : Fd := ⟨0, 4, seq, base, 0, 0, 0, false, ⟨#[]⟩⟩
def fdClock (c : Ck) : Fd := ⟨0, 1, 0, 0, 0, c.site, c.count, false, ⟨#[]⟩⟩
def fdCard (c : Cd) : Fd := ⟨0, 2, 0, 0, c.id, c.site, c.count, c.gone, c.text⟩
def fdEdit (c : Ed) : Fd := ⟨0, 3, 0, 0, c.id, 0, 0, false, c.text⟩
/-- A record's bytes. -/
def recF (f : Fd) : List UInt8 :=
  if f.kind = 4 then recHead f.seq f.base else if f.kind = 1 then recClock ⟨f.site, f.count⟩ else if f.kind = 2 then recCard ⟨f.id, f.site, f.count, f.gone, f.text⟩ else recEdit ⟨f.id, f.text⟩
theorem recF_head (s b : Int) : recF (fdHead s b) = recHead s b := rfl
theorem recF_clock (c : Ck) : recF (fdClock c) = recClock c := rfl
theorem recF_card (c : Cd) : recF (fdCard c) = recCard c := rfl
theorem recF_edit (c : Ed) : recF (fdEdit c) = recEdit c := rfl

/-- The first k clocks' records, .. -/
def recs1 (s b : Int) (R : Rep) (k : Nat) : List Fd := fdHead s b :: (List.range k).map (fun i => fdClock (R.c i))
def recs2 (s b : Int) (R : Rep) (k : Nat) : List Fd := recs1 s b R R.n1 ++ (List.range k).map (fun i => fdCard (R.d i))
def recs3 (s b : Int) (R : Rep) (k : Nat) : List Fd := recs2 s b R R.n2 ++ (List.range k).map (fun i => fdEdit (R.e i))
/-- All records of a link. -/
def recsOf (s b : Int) (R : Rep) : List Fd := recs3 s b R R.n3

theorem recs1_succ (s b : Int) (R : Rep) (k : Nat) : recs1 s b R (k + 1) = recs1 s b R k ++ [fdClock (R.c k)] := by simp [recs1, List.range_succ]
theorem recs2_zero (s b : Int) (R : Rep) : recs2 s b R 0 = recs1 s b R R.n1 := by simp [recs2]
theorem recs2_succ (s b : Int) (R : Rep) (k : Nat) : recs2 s b R (k + 1) = recs2 s b R k ++ [fdCard (R.d k)] := by simp [recs2, List.range_succ]
theorem recs3_zero (s b : Int) (R : Rep) : recs3 s b R 0 = recs2 s b R R.n2 := by simp [recs3]
theorem recs3_succ (s b : Int) (R : Rep) (k : Nat) : recs3 s b R (k + 1) = recs3 s b R k ++ [fdEdit (R.e k)] := by simp [recs3, List.range_succ]
theorem recsOf_length (s b : Int) (R : Rep) : (recsOf s b R).length = 1 + R.n1 + R.n2 + R.n3 := by simp [recsOf, recs3, recs2, recs1]; omega

/-- Few records, and numbers and texts that may be written. -/
structure Fit (R : Rep) : Prop where
  n1 : R.n1 ≤ 1000000
  n2 : R.n2 ≤ 1000000
  n3 : R.n3 ≤ 1000000
  c1 : ∀ i, i < R.n1 → Num (R.c i).site ∧ Num (R.c i).count
  d1 : ∀ i, i < R.n2 → Num (R.d i).id ∧ Num (R.d i).site ∧ Num (R.d i).count ∧ (R.d i).text.size ≤ 60
  e1 : ∀ i, i < R.n3 → Num (R.e i).id ∧ (R.e i).text.size ≤ 60

abbrev lnkA (s b : Int) (R : Rep) (a1 a2 a3 : Option Addr) (k1 k2 k3 : Nat) : Array Value := #[.int .i64 s, .int .i64 b, .slice a1 R.n1 k1, .slice a2 R.n2 k2, .slice a3 R.n3 k3]
abbrev BoxL (w : World) (s b : Int) (R : Rep) (a1 a2 a3 : Option Addr) (k1 k2 k3 : Nat) (wr : World) : Prop := Below (w.heap.size + 1) (w.alloc (.cells (lnkA s b R a1 a2 a3 k1 k2 k3) 45)) wr
theorem BoxL.cells {w : World} {s b : Int} {R : Rep} {a1 a2 a3 : Option Addr} {k1 k2 k3 : Nat} {wr : World} (hb : BoxL w s b R a1 a2 a3 k1 k2 k3 wr) :
    wr.cell? ⟨w.heap.size, 0, none⟩ = some (.int .i64 s) ∧ wr.cell? ⟨w.heap.size, 1, none⟩ = some (.int .i64 b) ∧ wr.cell? ⟨w.heap.size, 2, none⟩ = some (.slice a1 R.n1 k1) ∧ wr.cell? ⟨w.heap.size, 3, none⟩ = some (.slice a2 R.n2 k2) ∧ wr.cell? ⟨w.heap.size, 4, none⟩ = some (.slice a3 R.n3 k3) :=
  ⟨boxN hb 0, boxN hb 1, boxN hb 2, boxN hb 3, boxN hb 4⟩

set_option maxRecDepth 100000 in
set_option maxHeartbeats 4000000 in
theorem recordsOf_any (s b : Int) (R : Rep) (a1 a2 a3 : Option Addr) (k1 k2 k3 : Nat) (w : World) (hR : Has w R a1 a2 a3) (hF : Fit R) (hs : Num s) (hb1 : 0 ≤ b) (hb2 : b ≤ 4294967295) :
    Calls Try.prog 47 #[.agg (lnkA s b R a1 a2 a3 k1 k2 k3)] w fun e w' => ∃ ad cap N, e = .returned (.slice ad N cap) ∧ N = (recsOf s b R).length ∧ Vec w' w.heap.size 9 1 ad N cap ((recsOf s b R).map fun f => Value.string (str (recF f))) ∧ Below w.heap.size w w' := by
  have m1 := hF.n1; have m2 := hF.n2; have m3 := hF.n3
  have h0 : BoxL w s b R a1 a2 a3 k1 k2 k3 (w.alloc (.cells (lnkA s b R a1 a2 a3 k1 k2 k3) 45)) := Below.refl _ _
  go_enter Try.func47, Try.ntmps47
  go_wp2_with fail
  refine (head_any s b _ hs hb1 hb2).mono ?_
  rintro e w1 ⟨rfl, hh⟩
  have h1 : BoxL w s b R a1 a2 a3 k1 k2 k3 w1 := box_step h0 hh
  clear hh h0
  have z1 : w.heap.size + 1 ≤ w1.heap.size := by have := h1.size; simpa using this
  go_wp2_with fail
  go_loopw [4, 5, 6] (fun v u _ wr => ∃ (k : Nat) (ad : Option Addr) (cap N : Nat), k ≤ R.n1 ∧ u = .int .i64 k ∧ v = .slice ad N cap ∧ N = 1 + k ∧ Vec wr (w.heap.size + 1) 9 1 ad N cap ((recs1 s b R k).map fun f => Value.string (str (recF f))) ∧ BoxL w s b R a1 a2 a3 k1 k2 k3 wr) (fun _ u _ _ => R.n1 - (intOf u).toNat)
  case atStart => exact ⟨0, _, _, 1, Nat.zero_le _, rfl, rfl, rfl, Vec.lit w1 _ _ _ 1 [.string (str (recHead s b))] z1 (by omega) rfl, h1.alloc z1 _⟩
  case round =>
    clear h1 z1
    obtain ⟨k, ad, cap, N, hk, rfl, rfl, hN, hv, hb⟩ := hrel
    have HN : Hid (N = 1 + k) := hN
    have hNb : N ≤ 1000001 := by omega
    clear hN
    obtain ⟨x0, x1, x2, x3, x4⟩ := hb.cells
    by_cases hlt : k < R.n1
    · obtain ⟨bb, o, hbl, hix, cs, cc⟩ := (hR.below (box_old hb)).l1.clock k1 hlt
      obtain ⟨f1, f2⟩ := hF.c1 k hlt
      go_wp2_with fail
      refine (clock_any (R.c k) _ f1 f2).mono ?_
      rintro e w1 ⟨rfl, hh⟩
      have h1 : BoxL w s b R a1 a2 a3 k1 k2 k3 w1 := box_step hb hh
      have hv1 := hv.keep hh
      clear hh hv hb x0 x1 x2 x3 x4
      have z1 : w.heap.size + 1 ≤ w1.heap.size := by have := h1.size; simpa using this
      go_wp2_with (at_builtin; refine wpList_push (by rfl) _ _ 33 (by rfl) (w.heap.size + 1) 9 1 16 (.string ⟨#[]⟩) Try.underlying33 (by kernel_rfl) rfl (by decide) ad N cap _ (by rfl) (hv1.keep ((Below.refl _ _).alloc (Nat.le_refl _) _)) _ _ [.string (str (recClock (R.c k)))] (by rfl) rfl ?_ ?_ ?_ ?_ ?_ ?_; exact new_cells _ _ _; (simp [Value.oneCell']); (omega); (omega); (simp; omega); intro ad' cap' w' hv' hb' hs')
      have h2 : BoxL w s b R a1 a2 a3 k1 k2 k3 w' := (h1.alloc z1 _).trans hb'
      have hv2 : Vec w' (w.heap.size + 1) 9 1 ad' (N + 1) cap' ((recs1 s b R (k + 1)).map fun f => Value.string (str (recF f))) := by
        rw [recs1_succ, List.map_append]; exact hv'
      go_roundw
      case rel => exact ⟨k + 1, ad', cap', N + 1, by omega, by go_num, rfl, by have := HN.out; omega, hv2, h2⟩
      case measure => simp [intOf]; omega
    · have e1 : k = R.n1 := by omega
      have hv0 : Vec wr (w.heap.size + 1) 9 1 ad N cap ((recs2 s b R 0).map fun f => Value.string (str (recF f))) := by
        rw [recs2_zero, ← e1]; exact hv
      have N1 : Hid (N = 1 + R.n1) := by have := HN.out; show _ = _; omega
      clear e1 hv HN hk
      go_wp2_with fail
      go_loopw [4, 7, 8] (fun v u _ wr => ∃ (k : Nat) (ad : Option Addr) (cap N : Nat), k ≤ R.n2 ∧ u = .int .i64 k ∧ v = .slice ad N cap ∧ N = 1 + R.n1 + k ∧ Vec wr (w.heap.size + 1) 9 1 ad N cap ((recs2 s b R k).map fun f => Value.string (str (recF f))) ∧ BoxL w s b R a1 a2 a3 k1 k2 k3 wr) (fun _ u _ _ => R.n2 - (intOf u).toNat)
      case atStart => exact ⟨0, _, _, N, Nat.zero_le _, rfl, rfl, N1.out, hv0, hb⟩
      case round =>
        clear hv0 hb x0 x1 x2 x3 x4 N1 hNb hlt
        obtain ⟨k, ad, cap, N, hk, rfl, rfl, hN, hv, hb⟩ := hrel
        have HN : Hid (N = 1 + R.n1 + k) := hN
        have hNb : N ≤ 2000001 := by omega
        clear hN
        obtain ⟨x0, x1, x2, x3, x4⟩ := hb.cells
        by_cases hlt : k < R.n2
        · obtain ⟨bb, o, hbl, hix, c1, c2, c3, c4, c5⟩ := (hR.below (box_old hb)).l2.card k2 hlt
          obtain ⟨f1, f2, f3, f4⟩ := hF.d1 k hlt
          go_wp2_with fail
          refine (card_any (R.d k) _ f1 f2 f3 (by omega)).mono ?_
          rintro e w1 ⟨rfl, hh⟩
          have h1 : BoxL w s b R a1 a2 a3 k1 k2 k3 w1 := box_step hb hh
          have hv1 := hv.keep hh
          clear hh hv hb x0 x1 x2 x3 x4
          have z1 : w.heap.size + 1 ≤ w1.heap.size := by have := h1.size; simpa using this
          go_wp2_with (at_builtin; refine wpList_push (by rfl) _ _ 33 (by rfl) (w.heap.size + 1) 9 1 16 (.string ⟨#[]⟩) Try.underlying33 (by kernel_rfl) rfl (by decide) ad N cap _ (by rfl) (hv1.keep ((Below.refl _ _).alloc (Nat.le_refl _) _)) _ _ [.string (str (recCard (R.d k)))] (by rfl) rfl ?_ ?_ ?_ ?_ ?_ ?_; exact new_cells _ _ _; (simp [Value.oneCell']); (omega); (omega); (simp; omega); intro ad' cap' w' hv' hb' hs')
          have h2 : BoxL w s b R a1 a2 a3 k1 k2 k3 w' := (h1.alloc z1 _).trans hb'
          have hv2 : Vec w' (w.heap.size + 1) 9 1 ad' (N + 1) cap' ((recs2 s b R (k + 1)).map fun f => Value.string (str (recF f))) := by
            rw [recs2_succ, List.map_append]; exact hv'
          go_roundw
          case rel => exact ⟨k + 1, ad', cap', N + 1, by omega, by go_num, rfl, by have := HN.out; omega, hv2, h2⟩
          case measure => simp [intOf]; omega
        · have e1 : k = R.n2 := by omega
          have hv0 : Vec wr (w.heap.size + 1) 9 1 ad N cap ((recs3 s b R 0).map fun f => Value.string (str (recF f))) := by
            rw [recs3_zero, ← e1]; exact hv
          have N1 : Hid (N = 1 + R.n1 + R.n2) := by have := HN.out; show _ = _; omega
          clear e1 hv HN hk
          go_wp2_with fail
          go_loopw [4, 9, 10] (fun v u _ wr => ∃ (k : Nat) (ad : Option Addr) (cap N : Nat), k ≤ R.n3 ∧ u = .int .i64 k ∧ v = .slice ad N cap ∧ N = 1 + R.n1 + R.n2 + k ∧ Vec wr (w.heap.size + 1) 9 1 ad N cap ((recs3 s b R k).map fun f => Value.string (str (recF f))) ∧ BoxL w s b R a1 a2 a3 k1 k2 k3 wr) (fun _ u _ _ => R.n3 - (intOf u).toNat)
          case atStart => exact ⟨0, _, _, N, Nat.zero_le _, rfl, rfl, N1.out, hv0, hb⟩
          case round =>
            clear hv0 hb x0 x1 x2 x3 x4 N1 hNb hlt
            obtain ⟨k, ad, cap, N, hk, rfl, rfl, hN, hv, hb⟩ := hrel
            have HN : Hid (N = 1 + R.n1 + R.n2 + k) := hN
            have hNb : N ≤ 3000001 := by omega
            clear hN
            obtain ⟨x0, x1, x2, x3, x4⟩ := hb.cells
            by_cases hlt : k < R.n3
            · obtain ⟨bb, o, hbl, hix, c1, c2⟩ := (hR.below (box_old hb)).l3.edit k3 hlt
              obtain ⟨f1, f4⟩ := hF.e1 k hlt
              go_wp2_with fail
              refine (edit_any (R.e k) _ f1 (by omega)).mono ?_
              rintro e w1 ⟨rfl, hh⟩
              have h1 : BoxL w s b R a1 a2 a3 k1 k2 k3 w1 := box_step hb hh
              have hv1 := hv.keep hh
              clear hh hv hb x0 x1 x2 x3 x4
              have z1 : w.heap.size + 1 ≤ w1.heap.size := by have := h1.size; simpa using this
              go_wp2_with (at_builtin; refine wpList_push (by rfl) _ _ 33 (by rfl) (w.heap.size + 1) 9 1 16 (.string ⟨#[]⟩) Try.underlying33 (by kernel_rfl) rfl (by decide) ad N cap _ (by rfl) (hv1.keep ((Below.refl _ _).alloc (Nat.le_refl _) _)) _ _ [.string (str (recEdit (R.e k)))] (by rfl) rfl ?_ ?_ ?_ ?_ ?_ ?_; exact new_cells _ _ _; (simp [Value.oneCell']); (omega); (omega); (simp; omega); intro ad' cap' w' hv' hb' hs')
              have h2 : BoxL w s b R a1 a2 a3 k1 k2 k3 w' := (h1.alloc z1 _).trans hb'
              have hv2 : Vec w' (w.heap.size + 1) 9 1 ad' (N + 1) cap' ((recs3 s b R (k + 1)).map fun f => Value.string (str (recF f))) := by
                rw [recs3_succ, List.map_append]; exact hv'
              go_roundw
              case rel => exact ⟨k + 1, ad', cap', N + 1, by omega, by go_num, rfl, by have := HN.out; omega, hv2, h2⟩
              case measure => simp [intOf]; omega
            · have e1 : k = R.n3 := by omega
              have hv0 : Vec wr (w.heap.size + 1) 9 1 ad N cap ((recsOf s b R).map fun f => Value.string (str (recF f))) := by
                unfold recsOf; rw [← e1]; exact hv
              have N1 : Hid (N = (recsOf s b R).length) := by have := HN.out; show _ = _; rw [recsOf_length]; omega
              clear e1 hv HN hk
              go_wp2_with fail
              go_ret
              exact ⟨ad, cap, N, rfl, N1.out, hv0.mono (by omega), box_old hb⟩
end Go.Proofs.Ytdjpkgaicmklmab

/- A link's records in their order: the reference's records, walked. -/
namespace Go.Proofs.Ytdjpkgaicmklmab
open Go.RowKit

def fcells (l : List Fd) : List Value := (l.map Fd.cells).flatten
theorem fcells_append (a b : List Fd) : fcells (a ++ b) = fcells a ++ fcells b := by simp [fcells]
theorem fcells_one (f : Fd) : fcells [f] = f.cells := by simp [fcells]

theorem new_cells2 (w : World) (o : Obj) (cs : List Value) (t : TypeId) : ∀ j u, cs[j]? = some u → ((w.alloc o).alloc (.cells cs.toArray t)).cell? ((⟨w.heap.size + 1, 0, none⟩ : Addr).add j) = some u := by
  intro j u h
  have := new_cells (w.alloc o) cs t j u h
  rwa [World.size_alloc] at this

end Go.Proofs.Ytdjpkgaicmklmab

/- The reference's bits of bytes, walked. -/
namespace Go.Proofs.Ytdjpkgaicmklmab
open Go.RowKit

end Go.Proofs.Ytdjpkgaicmklmab

/- Long division of bits comes to the register: the plain mathematics. -/
namespace Go.Proofs.Ytdjpkgaicmklmab

/-- Bit j of the register, the highest first; behind the 32nd nothing. -/
def reg (c j : Nat) : Bool := decide (j < 32) && c.testBit (31 - j)
/-- Bit t of the bytes; noughts behind. -/
def msg (m : List Bool) (t : Nat) : Bool := m.getD t false
/-- What long division holds at t behind i steps. -/
def lfun (p : Nat) (m : List Bool) (i t : Nat) : Bool := reg (crcB p 4294967295 (m.take i)) (t - i) != msg m t
/-- .. and k places into the i-th step, where the divisor is laid upon it. -/
def gfun (p : Nat) (m : List Bool) (i k t : Nat) : Bool := lfun p m i t != (decide (i + 32 < t + k ∧ t ≤ i + 32) && p.testBit (i + 32 - t))

theorem reg_ones (j : Nat) : reg 4294967295 j = decide (j < 32) := by
  unfold reg
  by_cases h : j < 32
  · have : (4294967295 : Nat).testBit (31 - j) = true := by
      rw [show (4294967295 : Nat) = 2 ^ 32 - 1 by decide, Nat.testBit_two_pow_sub_one]; simp; omega
    simp [h, this]
  · simp [h]

theorem lfun_start (p : Nat) (m : List Bool) (t : Nat) : lfun p m 0 t = (decide (t < 32) != msg m t) := by
  unfold lfun; simp [crcB, reg_ones]

theorem crcB_take (p : Nat) (m : List Bool) (i : Nat) (h : i < m.length) : crcB p 4294967295 (m.take (i + 1)) = cst p (crcB p 4294967295 (m.take i)) m[i] := by
  rw [List.take_succ_eq_append_getElem h, crcB_append]; rfl

theorem lfun_top (p : Nat) (m : List Bool) (i : Nat) (h : i < m.length) : lfun p m i i = ((crcB p 4294967295 (m.take i)).testBit 31 != m[i]) := by
  unfold lfun reg msg
  simp [List.getD, List.getElem?_eq_getElem h]

theorem shl_bit (c j : Nat) (hj : j < 32) : (2 * c % 4294967296).testBit (31 - j) = reg c (j + 1) := by
  rw [show (4294967296 : Nat) = 2 ^ 32 by decide, Nat.testBit_mod_two_pow]
  unfold reg
  by_cases h : j + 1 < 32
  · have e : 31 - j = (31 - (j + 1)) + 1 := by omega
    rw [e, Nat.testBit_succ, Nat.mul_div_cancel_left _ (by omega)]
    simp [h]
    intro _
    omega
  · have e : 31 - j = 0 := by omega
    rw [e]
    simp [h]

/-- A step at which the first bit is not set. -/
theorem lfun_no (p : Nat) (m : List Bool) (i t : Nat) (h : i < m.length) (ht : i < t) (h0 : lfun p m i i = false) : lfun p m (i + 1) t = lfun p m i t := by
  rw [lfun_top p m i h] at h0
  unfold lfun
  rw [crcB_take p m i h]
  unfold cst
  rw [h0, if_neg (by simp)]
  have e : t - i = (t - (i + 1)) + 1 := by omega
  rw [e]
  congr 1
  by_cases hj : t - (i + 1) < 32
  · rw [← shl_bit _ _ hj]; unfold reg; simp [hj]
  · unfold reg; simp [hj]; omega

/-- A step at which it is. -/
theorem lfun_yes (p : Nat) (m : List Bool) (i t : Nat) (h : i < m.length) (ht : i < t) (h0 : lfun p m i i = true) : lfun p m (i + 1) t = gfun p m i 32 t := by
  rw [lfun_top p m i h] at h0
  unfold gfun lfun
  rw [crcB_take p m i h]
  unfold cst
  rw [h0, if_pos rfl]
  have e : t - i = (t - (i + 1)) + 1 := by omega
  rw [e]
  by_cases hj : t - (i + 1) < 32
  · have e2 : i + 32 - t = 31 - (t - (i + 1)) := by omega
    have e3 : (decide (i + 32 < t + 32 ∧ t ≤ i + 32)) = true := by simp; omega
    rw [e2, e3, ← shl_bit _ _ hj]
    unfold reg
    rw [Nat.testBit_xor]
    simp only [hj, decide_true, Bool.true_and]
    generalize (2 * _ % 4294967296).testBit _ = a
    generalize p.testBit _ = b
    generalize msg m t = c
    cases a <;> cases b <;> cases c <;> rfl
  · have e3 : (decide (i + 32 < t + 32 ∧ t ≤ i + 32)) = false := by simp; omega
    rw [e3]
    unfold reg
    have h1 : ¬ t - (i + 1) + 1 < 32 := by omega
    simp [hj, h1]

theorem gfun_start (p : Nat) (m : List Bool) (i t : Nat) : gfun p m i 0 t = lfun p m i t := by
  unfold gfun
  have : (decide (i + 32 < t + 0 ∧ t ≤ i + 32)) = false := by simp
  rw [this]; simp

theorem gfun_step (p : Nat) (m : List Bool) (i k t : Nat) (hk : k < 32) : gfun p m i (k + 1) t = if t = i + 32 - k ∧ p.testBit k = true then !gfun p m i k t else gfun p m i k t := by
  unfold gfun
  by_cases ht : t = i + 32 - k
  · have e1 : (decide (i + 32 < t + (k + 1) ∧ t ≤ i + 32)) = true := by simp; omega
    have e2 : (decide (i + 32 < t + k ∧ t ≤ i + 32)) = false := by simp; omega
    have e3 : i + 32 - t = k := by omega
    rw [e1, e2, e3]
    cases hb : p.testBit k
    · simp
    · simp [ht]
  · have e1 : (decide (i + 32 < t + (k + 1) ∧ t ≤ i + 32)) = (decide (i + 32 < t + k ∧ t ≤ i + 32)) := by
      rw [Bool.eq_iff_iff]; simp; omega
    rw [e1, if_neg (fun h => ht h.1)]

/-- What is read at the end. -/
theorem lfun_end (p : Nat) (m : List Bool) (k : Nat) (hk : k < 32) : lfun p m m.length (m.length + k) = (crcB p 4294967295 m).testBit (31 - k) := by
  unfold lfun reg msg
  have e1 : m.length + k - m.length = k := by omega
  rw [e1, List.take_of_length_le (Nat.le_refl _)]
  simp [hk, List.getD]

theorem gather (x k : Nat) (hk : k < 32) : x / 2 ^ (32 - (k + 1)) = 2 * (x / 2 ^ (32 - k)) + (x.testBit (31 - k)).toNat := by
  have e : 32 - k = (31 - k) + 1 := by omega
  have e2 : 32 - (k + 1) = 31 - k := by omega
  rw [e, e2, Nat.pow_succ, ← Nat.div_div_eq_div_mul, Nat.testBit_eq_decide_div_mod_eq]
  generalize x / 2 ^ (31 - k) = y
  by_cases h : y % 2 = 1
  · simp [h]; omega
  · simp [h]; omega

theorem not_bit (c k : Nat) (hk : k < 32) : (c ^^^ 4294967295).testBit (31 - k) = !c.testBit (31 - k) := by
  rw [Nat.testBit_xor]
  have : (4294967295 : Nat).testBit (31 - k) = true := by
    rw [show (4294967295 : Nat) = 2 ^ 32 - 1 by decide, Nat.testBit_two_pow_sub_one]; simp; omega
  rw [this]; simp
end Go.Proofs.Ytdjpkgaicmklmab

/- The reference's long division, walked. -/
namespace Go.Proofs.Ytdjpkgaicmklmab
open Go.RowKit

/-- A list by its places. -/
def Fun (L : List Bool) (N a : Nat) (F : Nat → Bool) : Prop := L.length = N ∧ ∀ t, a ≤ t → t < N → L[t]? = some (F t)
theorem Fun.set {L : List Bool} {N a : Nat} {F G : Nat → Bool} (h : Fun L N a F) (i : Nat) (y : Bool) (hi : i < N) (hG : ∀ t, a ≤ t → t < N → G t = if t = i then y else F t) : Fun (L.set i y) N a G := by
  refine ⟨by simpa using h.1, fun t ha ht => ?_⟩
  rw [hG t ha ht]
  have := h.1
  by_cases e : t = i
  · subst e; rw [List.getElem?_set_self (by omega), if_pos rfl]
  · rw [List.getElem?_set_ne (fun h => e h.symm), if_neg e]; exact h.2 t ha ht

theorem fun_start (m : List Bool) : Fun (m ++ List.replicate 32 false) (m.length + 32) 0 (fun t => decide (t < 0) != msg m t) := by
  refine ⟨by simp, fun t _ ht => ?_⟩
  unfold msg
  by_cases h : t < m.length
  · rw [List.getElem?_append_left h]; simp [List.getD, List.getElem?_eq_getElem h]
  · rw [List.getElem?_append_right (by omega), List.getElem?_replicate, if_pos (by omega)]
    simp [List.getD, List.getElem?_eq_none (show m.length ≤ t by omega)]

end Go.Proofs.Ytdjpkgaicmklmab

/- A record's bytes and a frame: the reference's written and Frame, walked. -/
namespace Go.Proofs.Ytdjpkgaicmklmab
open Go.RowKit
attribute [local go_sem] str_size str_append mk_append_str str_append_mk

abbrev BoxF (w : World) (f : Fd) (wr : World) : Prop := Below (w.heap.size + 1) (w.alloc (.cells f.cells.toArray 117)) wr
theorem SF {w : World} {f : Fd} {wr : World} (hb : BoxF w f wr) :
    wr.cell? ⟨w.heap.size, 1, none⟩ = some (.int .i64 f.kind) ∧ wr.cell? ⟨w.heap.size, 2, none⟩ = some (.int .i64 f.seq) ∧ wr.cell? ⟨w.heap.size, 3, none⟩ = some (.int .i64 f.base) ∧ wr.cell? ⟨w.heap.size, 4, none⟩ = some (.int .i64 f.id) ∧
    wr.cell? ⟨w.heap.size, 5, none⟩ = some (.int .i64 f.site) ∧ wr.cell? ⟨w.heap.size, 6, none⟩ = some (.int .i64 f.count) ∧ wr.cell? ⟨w.heap.size, 7, none⟩ = some (.bool f.gone) ∧ wr.cell? ⟨w.heap.size, 8, none⟩ = some (.string f.text) :=
  ⟨boxN hb 1, boxN hb 2, boxN hb 3, boxN hb 4, boxN hb 5, boxN hb 6, boxN hb 7, boxN hb 8⟩

theorem add_str {P : Program} (a b c : List UInt8) (hc : a ++ b = c) (h : c.length ≤ 9223372036854775807) (w : World) : (Op.stringOp .add (str a) (str b)).run P w = .ok (.string (str c)) w := by
  subst hc
  rw [← str_append]
  exact run_string_add_sum _ _ _ (by rw [str_size, str_size]; simpa using h)

/-- A record that may be written. -/
def FdOk (f : Fd) : Prop :=
  (∃ s b, f = fdHead s b ∧ Num s ∧ 0 ≤ b ∧ b ≤ 4294967295) ∨ (∃ c : Ck, f = fdClock c ∧ Num c.site ∧ Num c.count) ∨
  (∃ c : Cd, f = fdCard c ∧ Num c.id ∧ Num c.site ∧ Num c.count ∧ c.text.size ≤ 60) ∨ (∃ c : Ed, f = fdEdit c ∧ Num c.id ∧ c.text.size ≤ 60)

end Go.Proofs.Ytdjpkgaicmklmab

/- The program's sums: divideByte, remainder, Sum, Seal, walked. -/
namespace Go.Proofs.Ytdjpkgaicmklmab
open Go.RowKit

theorem div1_i64 (p : Nat) (y : Nat) (hp : p < 4294967296) (hy : y < 4294967296) (h : (4294967295 : Int) < (y : Int) * 2) : bits .xor .i64 ((y : Int) * 2) ((p : Int) + 4294967296) = ((div1 p y : Nat) : Int) := by
  have e : ((y : Int) * 2) = ((2 * y : Nat) : Int) := by omega
  have e2 : ((p : Int) + 4294967296) = ((p + 4294967296 : Nat) : Int) := by omega
  rw [e, e2, bits_xor_i64 _ _ (by omega) (by omega)]
  unfold div1
  rw [if_pos (by omega)]
theorem div1_small (p : Nat) (y : Nat) (h : (y : Int) * 2 ≤ 4294967295) : (y : Int) * 2 = ((div1 p y : Nat) : Int) := by
  unfold div1
  rw [if_neg (by omega)]; omega
theorem div1_lt {p y : Nat} (hp : p < 4294967296) (hy : y < 4294967296) : div1 p y < 4294967296 := by
  have := div1_step p y false [] hp hy (by simp)
  simp [high] at this
  rw [this]
  exact cst_lt hp

set_option maxHeartbeats 1000000 in
theorem divideByte_any (x p : Nat) (w : World) (h1 : x < 4294967296) (h3 : p < 4294967296) (P' : Int) (hP : P' = (p : Int) + 4294967296) :
    Calls Try.prog 96 #[.int .i64 x, .int .i64 P'] w fun e w' => e = .returned (.int .i64 ((divN p 8 x : Nat) : Int)) ∧ w' = w := by
  subst hP
  go_enter Try.func96, Try.ntmps96
  go_wp2
  go_loop [0, 5] (fun v i => ∃ (k : Nat) (y : Nat), k ≤ 8 ∧ i = .int .i64 k ∧ v = .int .i64 (y : Int) ∧ y < 4294967296 ∧ divN p (8 - k) y = divN p 8 x) (fun _ i => 8 - (intOf i).toNat)
  case atStart => exact ⟨0, x, Nat.zero_le _, rfl, rfl, h1, rfl⟩
  case round =>
    obtain ⟨k, y, hk, rfl, rfl, hy1, hd⟩ := hrel
    have HD : Hid (divN p (8 - k) y = divN p 8 x) := hd
    clear hd
    by_cases hlt : k < 8
    · have e0 : divN p (8 - (k + 1)) (div1 p y) = divN p 8 x := by
        rw [← HD.out, show 8 - k = (8 - (k + 1)) + 1 by omega, divN]
      have E0 : Hid (divN p (8 - (k + 1)) (div1 p y) = divN p 8 x) := e0
      clear e0 HD
      go_wp2
      · have e1 := div1_i64 p y h3 hy1 (by assumption)
        go_round
        case rel => exact ⟨k + 1, div1 p y, by omega, by go_num, by rw [e1], div1_lt h3 hy1, E0.out⟩
        case measure => simp [intOf]; omega
      · have e1 := div1_small p y (by assumption)
        go_round
        case rel => exact ⟨k + 1, div1 p y, by omega, by go_num, by rw [e1], div1_lt h3 hy1, E0.out⟩
        case measure => simp [intOf]; omega
    · have e1 : k = 8 := by omega
      subst e1
      go_wp2
      go_ret
      exact ⟨ret_int (by rw [← HD.out]; rfl), rfl⟩

theorem take_bytes (s : List UInt8) (k : Nat) (h : k < s.length) : s.take (k + 1) = s.take k ++ [s[k]] := List.take_succ_eq_append_getElem h

set_option maxHeartbeats 2000000 in
theorem remainder_any (s : List UInt8) (p : Nat) (w : World) (hs : s.length ≤ 9223372036854775807) (h3 : p < 4294967296) (P' : Int) (hP : P' = (p : Int) + 4294967296) :
    Calls Try.prog 79 #[.string (str s), .int .i64 P'] w fun e w' => e = .returned (.int .i64 ((crc p s : Nat) : Int)) ∧ w' = w := by
  subst hP
  have hz := str_size s
  have HZ : Hid ((str s).size = s.length) := hz
  clear hz
  have hs2 : (str s).size ≤ 9223372036854775807 := by rw [HZ.out]; exact hs
  go_enter Try.func79, Try.ntmps79
  go_wp2
  go_loop [5, 6] (fun v i => ∃ (k : Nat) (r : Nat), k ≤ (str s).size ∧ i = .int .i64 k ∧ v = .int .i64 (r : Int) ∧ r < 4294967296 ∧ r = crcB p 4294967295 (allBits (s.take k))) (fun _ i => (str s).size - (intOf i).toNat)
  case atStart => exact ⟨0, 4294967295, Nat.zero_le _, rfl, rfl, by omega, rfl⟩
  case round =>
    obtain ⟨k, r, hk, rfl, rfl, hr1, hr⟩ := hrel
    have HR : Hid (r = crcB p 4294967295 (allBits (s.take k))) := hr
    clear hr
    by_cases hlt : k < (str s).size
    · have hlt2 : k < s.length := by rw [← HZ.out]; exact hlt
      go_wp2_with fail
      have eb : wrap64 (wrap64 (((str s)[k]'hlt).toNat : Int) * 16777216) = ((s[k].toNat * 16777216 : Nat) : Int) := by
        have hb := (s[k]).toNat_lt
        have e0 : ((str s)[k]'hlt).toNat = s[k].toNat := rfl
        rw [e0]
        unfold wrap64
        omega
      have hb := (s[k]).toNat_lt
      have ex : bits BinOp.xor IntKind.i64 (r : Int) (wrap64 (wrap64 (((str s)[k]'hlt).toNat : Int) * 16777216)) = ((r ^^^ (s[k].toNat * 16777216) : Nat) : Int) := by
        rw [eb, bits_xor_i64 _ _ (by omega) (by omega)]
      rw [ex]
      have hx : r ^^^ (s[k].toNat * 16777216) < 4294967296 := Nat.xor_lt_two_pow (n := 32) hr1 (by omega)
      have hd := divN_byte p h3 s[k] r hr1
      have HD : Hid (divN p 8 (r ^^^ (s[k].toNat * 16777216)) = crcB p r (bitsOf s[k])) := hd
      clear hd ex eb
      generalize hX : r ^^^ (s[k].toNat * 16777216) = X at *
      clear hX
      refine (divideByte_any X p _ hx h3 _ rfl).mono ?_
      rintro e w' ⟨rfl, rfl⟩
      have hlt3 : divN p 8 X < 4294967296 := by rw [HD.out]; exact crcB_lt h3 _ hr1
      have hfin : divN p 8 X = crcB p 4294967295 (allBits (s.take (k + 1))) := by
        rw [HD.out, HR.out, take_bytes s k hlt2]
        rw [allBits_append, allBits_one, crcB_append]
      have HF : Hid (divN p 8 X = crcB p 4294967295 (allBits (s.take (k + 1)))) := hfin
      clear hfin HD HR
      generalize divN p 8 X = Y at *
      go_wp2_with fail
      go_round
      case rel => exact ⟨k + 1, Y, by omega, by go_num, rfl, hlt3, HF.out⟩
      case measure => simp [intOf]; omega
    · have e1 : k = s.length := by rw [← HZ.out]; omega
      have e2 : crc p s = r ^^^ 4294967295 := by
        unfold crc; rw [HR.out, e1, List.take_of_length_le (Nat.le_refl _)]
      have e3 : bits .xor .i64 (r : Int) 4294967295 = ((crc p s : Nat) : Int) := by
        rw [e2, ← bits_xor_i64 r 4294967295 (by omega) (by omega)]; rfl
      have E3 : Hid (bits .xor .i64 (r : Int) 4294967295 = ((crc p s : Nat) : Int)) := e3
      clear e1 e2 e3 HR
      go_wp2_with fail
      go_ret
      exact ⟨ret_int E3.out, rfl⟩

set_option maxHeartbeats 1000000 in
theorem sum_any (s : List UInt8) (w : World) (hs : s.length ≤ 9223372036854775807) :
    Calls Try.prog 51 #[.string (str s)] w fun e w' => e = .returned (.int .i64 ((crc pSum s : Nat) : Int)) ∧ w' = w := by
  go_enter Try.func51, Try.ntmps51
  go_wp2_with fail
  refine (remainder_any s pSum _ hs (by decide) _ (by decide)).mono ?_
  rintro e w' ⟨rfl, rfl⟩
  go_wp2_with fail
  go_ret
  exact ⟨rfl, rfl⟩
set_option maxHeartbeats 1000000 in
theorem seal_any (s : List UInt8) (w : World) (hs : s.length ≤ 9223372036854775807) :
    Calls Try.prog 49 #[.string (str s)] w fun e w' => e = .returned (.int .i64 ((crc pSeal s : Nat) : Int)) ∧ w' = w := by
  go_enter Try.func49, Try.ntmps49
  go_wp2_with fail
  refine (remainder_any s pSeal _ hs (by decide) _ (by decide)).mono ?_
  rintro e w' ⟨rfl, rfl⟩
  go_wp2_with fail
  go_ret
  exact ⟨rfl, rfl⟩
end Go.Proofs.Ytdjpkgaicmklmab

/- Frames and bundles of both, walked. -/
namespace Go.Proofs.Ytdjpkgaicmklmab
open Go.RowKit
attribute [local go_sem] str_size str_append mk_append_str str_append_mk

/-- A frame. -/
def frameB (r : List UInt8) : List UInt8 := 245 :: 95 :: (byt r.length :: (r ++ fourI (crc pSum (byt r.length :: r))))
/-- A bundle of records. -/
def bodyB (l : List Fd) : List UInt8 := 80 :: 82 :: 67 :: 49 :: l.flatMap (fun f => frameB (recF f))
def bundleB (l : List Fd) : List UInt8 := bodyB l ++ fourI (crc pSeal (bodyB l))

theorem frameB_length (r : List UInt8) : (frameB r).length = r.length + 7 := by simp [frameB, fourI]
theorem bodyB_succ (l : List Fd) (f : Fd) : bodyB (l ++ [f]) = bodyB l ++ frameB (recF f) := by simp [bodyB]

theorem recF_length {f : Fd} (h : FdOk f) : (recF f).length ≤ 100 := by
  rcases h with ⟨s, b, rfl, h1, h2, h3⟩ | ⟨c, rfl, h1, h2⟩ | ⟨c, rfl, h1, h2, h3, h4⟩ | ⟨c, rfl, h1, h2⟩
  · have := numB_length s
    rw [recF_head]; unfold recHead; split <;> simp [fourI] <;> omega
  · have := numB_length c.site; have := numB_length c.count
    rw [recF_clock]; unfold recClock; simp; omega
  · have := numB_length c.id; have := numB_length c.site; have := numB_length c.count
    rw [recF_card]; unfold recCard; simp
    have e : c.text.data.size = c.text.size := rfl
    omega
  · have := numB_length c.id
    rw [recF_edit]; unfold recEdit; simp
    have e : c.text.data.size = c.text.size := rfl
    omega

theorem bodyB_length (l : List Fd) (h : ∀ f, f ∈ l → FdOk f) : (bodyB l).length ≤ 4 + 107 * l.length := by
  have : ∀ l : List Fd, (∀ f, f ∈ l → FdOk f) → (l.flatMap (fun f => frameB (recF f))).length ≤ 107 * l.length := by
    intro l
    induction l with
    | nil => intro _; simp
    | cons f l ih =>
      intro h
      have h1 := recF_length (h f (by simp))
      have h2 := ih (fun x hx => h x (by simp [hx]))
      simp only [List.flatMap_cons, List.length_append, frameB_length, List.length_cons]
      omega
  have := this l h
  simp only [bodyB, List.length_cons]
  omega

theorem crc_le (p : Nat) (hp : p < 4294967296) (l : List UInt8) : 0 ≤ ((crc p l : Nat) : Int) ∧ ((crc p l : Nat) : Int) ≤ 4294967295 := by
  have := crc_lt hp l; omega

set_option maxRecDepth 100000 in
set_option maxHeartbeats 1000000 in
theorem frame_any (r : List UInt8) (w : World) (hr : r.length ≤ 255) :
    Calls Try.prog 48 #[.string (str r)] w fun e w' => e = .returned (.string (str (frameB r))) ∧ Below w.heap.size w w' := by
  have E : Hid (245 :: 95 :: (byt r.length :: (r ++ fourI (crc pSum (byt r.length :: r)))) = frameB r) := rfl
  have l4 : ∀ n, (fourI n).length ≤ 4 := fun _ => Nat.le_refl _
  go_enter Try.func48, Try.ntmps48
  go_wp2_with fail
  refine (oneByte_any _ _ (by omega) (by omega)).mono ?_
  rintro e w1 ⟨rfl, hb1⟩
  go_wp2_with fail
  refine (sum_any (byt r.length :: r) _ (by simp; omega)).mono ?_
  rintro e w2 ⟨rfl, rfl⟩
  obtain ⟨c1, c2⟩ := crc_le pSum (by decide) (byt r.length :: r)
  generalize crc pSum (byt r.length :: r) = C at *
  go_wp2_with fail
  refine (fourBytes_any _ _ c1 c2).mono ?_
  rintro e w3 ⟨rfl, hb3⟩
  have l5 := l4 (C : Int)
  generalize fourI (C : Int) = t at *
  clear l4
  go_wp2_with fail
  go_ret
  exact ⟨ret_str E.out, hb1.trans (hb3.mono hb1.size)⟩

theorem Fit.ok {R : Rep} (hF : Fit R) {s b : Int} (hs : Num s) (hb1 : 0 ≤ b) (hb2 : b ≤ 4294967295) : ∀ f, f ∈ recsOf s b R → FdOk f := by
  intro f h
  simp only [recsOf, recs3, recs2, recs1, List.mem_append, List.mem_cons, List.mem_map, List.mem_range] at h
  rcases h with ((rfl | ⟨i, hi, rfl⟩) | ⟨i, hi, rfl⟩) | ⟨i, hi, rfl⟩
  · exact Or.inl ⟨s, b, rfl, hs, hb1, hb2⟩
  · obtain ⟨g1, g2⟩ := hF.c1 i hi
    exact Or.inr (Or.inl ⟨_, rfl, g1, g2⟩)
  · obtain ⟨g1, g2, g3, g4⟩ := hF.d1 i hi
    exact Or.inr (Or.inr (Or.inl ⟨_, rfl, g1, g2, g3, g4⟩))
  · obtain ⟨g1, g2⟩ := hF.e1 i hi
    exact Or.inr (Or.inr (Or.inr ⟨_, rfl, g1, g2⟩))

set_option maxRecDepth 100000 in
set_option maxHeartbeats 4000000 in
theorem bundle_any (s b : Int) (R : Rep) (a1 a2 a3 : Option Addr) (k1 k2 k3 : Nat) (w : World) (hR : Has w R a1 a2 a3) (hF : Fit R) (hs : Num s) (hb1 : 0 ≤ b) (hb2 : b ≤ 4294967295) :
    Calls Try.prog 32 #[.agg (lnkA s b R a1 a2 a3 k1 k2 k3)] w fun e w' => e = .returned (.string (str (bundleB (recsOf s b R)))) ∧ Below w.heap.size w w' := by
  have m1 := hF.n1; have m2 := hF.n2; have m3 := hF.n3
  have h0 : BoxL w s b R a1 a2 a3 k1 k2 k3 (w.alloc (.cells (lnkA s b R a1 a2 a3 k1 k2 k3) 45)) := Below.refl _ _
  have hrec := recordsOf_any s b R a1 a2 a3 k1 k2 k3 (w.alloc (.cells (lnkA s b R a1 a2 a3 k1 k2 k3) 45)) (hR.below (box_old h0)) hF hs hb1 hb2
  go_enter Try.func32, Try.ntmps32
  go_wp2_with fail
  refine hrec.mono ?_
  rintro e w1 ⟨ad, cap, N, rfl, hN, hv, hh⟩
  have h1 := box_old (box_step h0 hh)
  clear hh h0 hrec
  have hok := hF.ok hs hb1 hb2
  have hNb : N ≤ 3000001 := by rw [hN, recsOf_length]; omega
  generalize hll : recsOf s b R = l at *
  have HLL : Hid (recsOf s b R = l) := hll
  clear hll
  have HN : Hid (N = l.length) := hN
  have HO : Hid (∀ f, f ∈ l → FdOk f) := hok
  clear hN hok
  go_wp2_with fail
  go_loopw [4, 5, 6] (fun v u _ wr => ∃ (k : Nat) (B : List UInt8), k ≤ N ∧ u = .int .i64 k ∧ v = .string (str B) ∧ B = bodyB (l.take k) ∧ B.length ≤ 400000000 ∧ Below w1.heap.size w1 wr) (fun _ u _ _ => N - (intOf u).toNat)
  case atStart => exact ⟨0, [80, 82, 67, 49], Nat.zero_le _, rfl, rfl, rfl, by simp, Below.refl _ _⟩
  case round =>
    obtain ⟨k, B, hk, rfl, rfl, hB, hBl, hb⟩ := hrel
    have HB : Hid (B = bodyB (l.take k)) := hB
    clear hB
    by_cases hlt : k < N
    · have hl : k < l.length := by rw [← HN.out]; exact hlt
      have hvr := hv.keep hb
      obtain ⟨bb, o, _, hbl, hix, hc, _, _⟩ := hvr.at (P := Try.prog) (t := 33) (by kernel_rfl) (by kernel_rfl) hlt (k : Int) rfl
      have hcell : wr.cell? ⟨bb, o, none⟩ = some (.string (str (recF l[k]))) := by
        have := hc 0 (by omega)
        rw [Nat.add_zero, Nat.mul_one, Nat.add_zero, List.getElem?_map, List.getElem?_eq_getElem hl] at this
        exact this
      have hfk := HO.out l[k] (List.getElem_mem hl)
      have hfl := recF_length hfk
      have hbod : bodyB (l.take (k + 1)) = B ++ frameB (recF l[k]) := by
        rw [List.take_succ_eq_append_getElem hl, bodyB_succ, HB.out]
      have hbl2 := bodyB_length (l.take (k + 1)) (fun f hf => HO.out f (List.mem_of_mem_take hf))
      rw [hbod] at hbl2
      have hfr := frameB_length (recF l[k])
      have hk3 : (l.take (k + 1)).length ≤ 3000001 := by rw [List.length_take]; have := HN.out; omega
      have hbl3 : (B ++ frameB (recF l[k])).length ≤ 400000000 := by omega
      have HD : Hid (bodyB (l.take (k + 1)) = B ++ frameB (recF l[k])) := hbod
      clear hc hbod hbl2 hk3 hvr HB hfk
      generalize recF l[k] = r at *
      have hfr2 : (frameB r).length ≤ 200 := by omega
      clear hfr
      go_wp2_with fail
      refine (frame_any r _ (by omega)).mono ?_
      rintro e w2 ⟨rfl, hh⟩
      have hb3 : Below w1.heap.size w1 w2 := hb.trans (hh.mono hb.size)
      clear hh
      generalize frameB r = fr at *
      rw [List.length_append] at hbl3
      go_wp2_with fail
      go_roundw
      case rel => exact ⟨k + 1, B ++ fr, by omega, by go_num, rfl, HD.out.symm, by simp; omega, hb3⟩
      case measure => simp [intOf]; omega
    · have e1 : k = N := by omega
      have E : Hid (B = bodyB l) := by
        have h := HB.out
        rw [e1, HN.out, List.take_of_length_le (Nat.le_refl _)] at h; exact h
      clear e1 HB
      go_wp2_with fail
      refine (seal_any B _ (by omega)).mono ?_
      rintro e w2 ⟨rfl, rfl⟩
      obtain ⟨c1, c2⟩ := crc_le pSeal (by decide) B
      have F : Hid (B ++ fourI (crc pSeal B) = bundleB l) := by show _ = _; rw [E.out]; rfl
      generalize crc pSeal B = C at *
      go_wp2_with fail
      refine (fourBytes_any _ _ c1 c2).mono ?_
      rintro e w3 ⟨rfl, hh⟩
      have l5 : (fourI (C : Int)).length ≤ 4 := Nat.le_refl _
      generalize fourI (C : Int) = t at *
      go_wp2_with fail
      go_ret
      exact ⟨ret_str (by rw [HLL.out]; exact F.out), h1.trans ((hb.trans (hh.mono hb.size)).mono h1.size)⟩
end Go.Proofs.Ytdjpkgaicmklmab

/- A bundle is of one list of records: numbers end themselves, frames tell their length. -/
namespace Go.Proofs.Ytdjpkgaicmklmab
open Go.RowKit

theorem byt_inj {a b : Int} (ha : 0 ≤ a) (ha2 : a < 256) (hb : 0 ≤ b) (hb2 : b < 256) (h : byt a = byt b) : a = b := by
  unfold byt at h
  have := congrArg UInt8.toNat h
  simp only [UInt8.toNat_ofNat'] at this
  omega

/-- Numbers end themselves. -/
theorem numI_free : ∀ (k : Nat) (a b : Int), 0 ≤ a → 0 ≤ b → a < 128 ^ (k + 1) → b < 128 ^ (k + 1) → ∀ x y : List UInt8, (numI k a).map byt ++ x = (numI k b).map byt ++ y → a = b ∧ x = y
  | 0, a, b, ha, hb, la, lb, x, y, h => by
    simp [numI] at h la lb
    exact ⟨byt_inj ha (by omega) hb (by omega) h.1, h.2⟩
  | k + 1, a, b, ha, hb, la, lb, x, y, h => by
    have e : (128 : Int) ^ (k + 1 + 1) = 128 ^ (k + 1) * 128 := Int.pow_succ ..
    simp only [numI] at h
    split at h <;> split at h
    · simp at h; exact ⟨byt_inj ha (by omega) hb (by omega) h.1, h.2⟩
    · simp at h
      have := byt_inj ha (by omega) (by omega) (by omega) h.1
      omega
    · simp at h
      have := byt_inj (by omega) (by omega) hb (by omega) h.1
      omega
    · simp only [List.map_cons, List.cons_append, List.cons.injEq] at h
      have h1 := byt_inj (by omega) (by omega) (by omega) (by omega) h.1
      have h2 := numI_free k (a / 128) (b / 128) (by omega) (by omega) (Int.ediv_lt_of_lt_mul (by omega) (by rw [← e]; exact la)) (Int.ediv_lt_of_lt_mul (by omega) (by rw [← e]; exact lb)) x y h.2
      exact ⟨by omega, h2.2⟩
theorem numB_free {a b : Int} (ha : Num a) (hb : Num b) {x y : List UInt8} (h : numB a ++ x = numB b ++ y) : a = b ∧ x = y :=
  numI_free 9 a b ha.1 hb.1 (Int.lt_of_le_of_lt ha.2 (by decide)) (Int.lt_of_le_of_lt hb.2 (by decide)) x y h

theorem ba_ext {a b : ByteArray} (h : a.data.toList = b.data.toList) : a = b := by
  cases a; cases b; simp at h; simp [h]

/-- A record's bytes are of one record. -/
theorem recF_inj {f g : Fd} (hf : FdOk f) (hg : FdOk g) (h : recF f = recF g) (hs : f.seq = 0) (hs2 : g.seq = 0) (hb : f.base = 0) (hb2 : g.base = 0) : f = g := by
  rcases hf with ⟨s, b, rfl, hns, -, -⟩ | ⟨c, rfl, n1, n2⟩ | ⟨c, rfl, n1, n2, n3, -⟩ | ⟨c, rfl, n1, -⟩ <;>
  rcases hg with ⟨s', b', rfl, hns', -, -⟩ | ⟨c', rfl, m1, m2⟩ | ⟨c', rfl, m1, m2, m3, -⟩ | ⟨c', rfl, m1, -⟩ <;>
  simp only [recF_head, recF_clock, recF_card, recF_edit, recHead, recClock, recCard, recEdit, List.cons.injEq] at h
  all_goals first
    | (exact absurd h.1 (by decide))
    | skip
  · have e1 : s = 0 := hs
    have e2 : s' = 0 := hs2
    have e3 : b = 0 := hb
    have e4 : b' = 0 := hb2
    subst e1 e2 e3 e4; rfl
  · obtain ⟨e1, h2⟩ := numB_free n1 m1 h.2
    obtain ⟨e2, -⟩ := numB_free n2 m2 (x := []) (y := []) (by simpa using h2)
    cases c; cases c'; simp at e1 e2; subst e1 e2; rfl
  · obtain ⟨e1, h2⟩ := numB_free n1 m1 h.2
    obtain ⟨e2, h3⟩ := numB_free n2 m2 h2
    obtain ⟨e3, h4⟩ := numB_free n3 m3 h3
    simp only [List.cons.injEq] at h4
    have e4 : c.gone = c'.gone := by
      have := h4.1
      cases hg1 : c.gone <;> cases hg2 : c'.gone <;> simp [hg1, hg2] at this ⊢
    have e5 := ba_ext h4.2
    cases c; cases c'; simp at e1 e2 e3 e4 e5; subst e1 e2 e3 e4 e5; rfl
  · obtain ⟨e1, h2⟩ := numB_free n1 m1 h.2
    have e5 := ba_ext h2
    cases c; cases c'; simp at e1 e5; subst e1 e5; rfl

/-- Frames tell their length. -/
theorem frameB_free {r s : List UInt8} (hr : r.length ≤ 255) (hs : s.length ≤ 255) {x y : List UInt8} (h : frameB r ++ x = frameB s ++ y) : r = s ∧ x = y := by
  simp only [frameB, List.cons_append, List.cons.injEq, List.append_assoc] at h
  obtain ⟨-, -, h1, h2⟩ := h
  have hl : r.length = s.length := by
    have := byt_inj (a := (r.length : Int)) (b := (s.length : Int)) (by omega) (by omega) (by omega) (by omega) h1; omega
  obtain ⟨e1, e2⟩ := List.append_inj h2 hl
  subst e1
  exact ⟨rfl, List.append_cancel_left e2⟩

theorem frames_inj : ∀ (l m : List Fd), (∀ f, f ∈ l → FdOk f ∧ f.seq = 0 ∧ f.base = 0) → (∀ f, f ∈ m → FdOk f ∧ f.seq = 0 ∧ f.base = 0) → l.flatMap (fun f => frameB (recF f)) = m.flatMap (fun f => frameB (recF f)) → l = m
  | [], [], _, _, _ => rfl
  | [], g :: m, _, _, h => by simp [frameB] at h
  | f :: l, [], _, _, h => by simp [frameB] at h
  | f :: l, g :: m, hl, hm, h => by
    simp only [List.flatMap_cons] at h
    have a := hl f (List.mem_cons_self ..)
    have b := hm g (List.mem_cons_self ..)
    obtain ⟨e1, e2⟩ := frameB_free (by have := recF_length a.1; omega) (by have := recF_length b.1; omega) h
    have := recF_inj a.1 b.1 e1 a.2.1 b.2.1 a.2.2 b.2.2
    subst this
    rw [frames_inj l m (fun x hx => hl x (List.mem_cons_of_mem _ hx)) (fun x hx => hm x (List.mem_cons_of_mem _ hx)) e2]

theorem bundleB_inj {l m : List Fd} (hl : ∀ f, f ∈ l → FdOk f ∧ f.seq = 0 ∧ f.base = 0) (hm : ∀ f, f ∈ m → FdOk f ∧ f.seq = 0 ∧ f.base = 0) (h : bundleB l = bundleB m) : l = m := by
  unfold bundleB at h
  have e : (bodyB l).length = (bodyB m).length := by
    have := congrArg List.length h
    simp [fourI] at this; exact this
  obtain ⟨h, -⟩ := List.append_inj h e
  simp only [bodyB, List.cons.injEq, true_and] at h
  exact frames_inj l m hl hm h

/-- All records have no sequence and no base. -/
theorem recsOf_zero (R : Rep) : ∀ f, f ∈ recsOf 0 0 R → f.seq = 0 ∧ f.base = 0 := by
  intro f hf
  simp only [recsOf, recs3, recs2, recs1, List.mem_append, List.mem_cons, List.mem_map] at hf
  rcases hf with ((rfl | ⟨i, _, rfl⟩) | ⟨i, _, rfl⟩) | ⟨i, _, rfl⟩ <;> exact ⟨rfl, rfl⟩

/-- Two replicas are the same. -/
structure Same (R T : Rep) : Prop where
  n1 : R.n1 = T.n1
  n2 : R.n2 = T.n2
  n3 : R.n3 = T.n3
  c : ∀ i, i < R.n1 → R.c i = T.c i
  d : ∀ i, i < R.n2 → R.d i = T.d i
  e : ∀ i, i < R.n3 → R.e i = T.e i

theorem filter_kind (R : Rep) (k : Int) : (recsOf 0 0 R).filter (fun f => f.kind == k) =
    (if k = 4 then [fdHead 0 0] else []) ++ (if k = 1 then (List.range R.n1).map (fun i => fdClock (R.c i)) else []) ++ (if k = 2 then (List.range R.n2).map (fun i => fdCard (R.d i)) else []) ++ (if k = 3 then (List.range R.n3).map (fun i => fdEdit (R.e i)) else []) := by
  have h : ∀ (n : Nat) (f : Nat → Fd) (q : Int), (∀ i, (f i).kind = q) → ((List.range n).map f).filter (fun f => f.kind == k) = if k = q then (List.range n).map f else [] := by
    intro n f q hq
    split
    · rename_i e; subst e
      rw [List.filter_eq_self]; intro x hx; obtain ⟨i, _, rfl⟩ := List.mem_map.1 hx; simp [hq]
    · rename_i e
      rw [List.filter_eq_nil_iff]; intro x hx; obtain ⟨i, _, rfl⟩ := List.mem_map.1 hx; simp [hq]; omega
  unfold recsOf recs3 recs2 recs1
  rw [List.filter_append, List.filter_append, h R.n3 _ 3 (fun _ => rfl), h R.n2 _ 2 (fun _ => rfl), List.filter_cons, h R.n1 _ 1 (fun _ => rfl)]
  congr 2
  by_cases e : k = 4
  · subst e; simp [fdHead]
  · rw [if_neg (by show ¬ ((4 : Int) == k) = true; simp; omega), if_neg e]; simp

theorem map_range_inj {α : Type} {n m : Nat} {f g : Nat → α} (h : (List.range n).map f = (List.range m).map g) : n = m ∧ ∀ i, i < n → f i = g i := by
  have e : n = m := by simpa using congrArg List.length h
  subst e
  refine ⟨rfl, fun i hi => ?_⟩
  have := congrArg (fun l => l[i]?) h
  simpa [hi] using this

theorem recsOf_inj {R T : Rep} (h : recsOf 0 0 R = recsOf 0 0 T) : Same R T := by
  have k1 := congrArg (List.filter (fun f => f.kind == 1)) h
  have k2 := congrArg (List.filter (fun f => f.kind == 2)) h
  have k3 := congrArg (List.filter (fun f => f.kind == 3)) h
  rw [filter_kind, filter_kind] at k1 k2 k3
  simp at k1 k2 k3
  obtain ⟨a1, b1⟩ := map_range_inj k1
  obtain ⟨a2, b2⟩ := map_range_inj k2
  obtain ⟨a3, b3⟩ := map_range_inj k3
  refine ⟨a1, a2, a3, fun i hi => ?_, fun i hi => ?_, fun i hi => ?_⟩
  · have := b1 i hi
    simp [fdClock] at this
    cases hr : R.c i; cases ht : T.c i; simp [hr, ht] at this; simp [this]
  · have := b2 i hi
    simp [fdCard] at this
    cases hr : R.d i; cases ht : T.d i; simp [hr, ht] at this; simp [this]
  · have := b3 i hi
    simp [fdEdit] at this
    cases hr : R.e i; cases ht : T.e i; simp [hr, ht] at this; simp [this]

theorem Same.recs {R T : Rep} (h : Same R T) : recsOf 0 0 R = recsOf 0 0 T := by
  have e1 : (List.range R.n1).map (fun i => fdClock (R.c i)) = (List.range R.n1).map (fun i => fdClock (T.c i)) := List.map_congr_left fun i hi => by rw [h.c i (List.mem_range.1 hi)]
  have e2 : (List.range R.n2).map (fun i => fdCard (R.d i)) = (List.range R.n2).map (fun i => fdCard (T.d i)) := List.map_congr_left fun i hi => by rw [h.d i (List.mem_range.1 hi)]
  have e3 : (List.range R.n3).map (fun i => fdEdit (R.e i)) = (List.range R.n3).map (fun i => fdEdit (T.e i)) := List.map_congr_left fun i hi => by rw [h.e i (List.mem_range.1 hi)]
  unfold recsOf recs3 recs2 recs1
  rw [e1, e2, e3, ← h.n1, ← h.n2, ← h.n3]

/-- A bundle is of one sound replica. -/
theorem bundle_same {R T : Rep} (hR : Fit R) (hT : Fit T) : bundleB (recsOf 0 0 R) = bundleB (recsOf 0 0 T) ↔ Same R T := by
  constructor
  · intro h
    refine recsOf_inj (bundleB_inj (fun f hf => ⟨hR.ok ⟨by omega, by omega⟩ (by omega) (by omega) f hf, recsOf_zero R f hf⟩) (fun f hf => ⟨hT.ok ⟨by omega, by omega⟩ (by omega) (by omega) f hf, recsOf_zero T f hf⟩) h)
  · intro h; rw [h.recs]

/-- How many bytes a number has. -/
def bytesI : Nat → Int → Nat
  | 0, _ => 1
  | k + 1, n => if n < 128 then 1 else bytesI k (n / 128) + 1
theorem numI_bytes : ∀ (k : Nat) (n : Int), (numI k n).length = bytesI k n
  | 0, n => rfl
  | k + 1, n => by
    simp only [numI, bytesI]; split
    · rfl
    · simp [numI_bytes k (n / 128)]
theorem numB_bytes (n : Int) : (numB n).length = bytesI 9 n := by simp [numB, numI_bytes]

/-- How long the frames of records are. -/
def lenF (f : Fd) : Nat := (recF f).length + 7
def lenL (l : List Fd) : Nat := (l.map lenF).sum
theorem bundleB_length (l : List Fd) : (bundleB l).length = 8 + lenL l := by
  have : ∀ l : List Fd, (l.flatMap (fun f => frameB (recF f))).length = lenL l := by
    intro l; induction l with
    | nil => rfl
    | cons f l ih => simp only [List.flatMap_cons, List.length_append, ih, frameB_length, lenL, List.map_cons, List.sum_cons, lenF]
  unfold bundleB bodyB
  simp [fourI, this]; omega
theorem lenL_snoc (l : List Fd) (f : Fd) : lenL (l ++ [f]) = lenL l + lenF f := by simp [lenL]
theorem lenF_clock (c : Ck) : lenF (fdClock c) = 8 + bytesI 9 c.site + bytesI 9 c.count := by
  unfold lenF; rw [recF_clock, recClock, List.length_cons, List.length_append, numB_bytes, numB_bytes]; omega
theorem lenF_card (c : Cd) : lenF (fdCard c) = 9 + bytesI 9 c.id + bytesI 9 c.site + bytesI 9 c.count + c.text.size := by
  have : c.text.data.toList.length = c.text.size := Array.length_toList
  unfold lenF; rw [recF_card, recCard, List.length_cons, List.length_append, List.length_append, List.length_append, List.length_cons, numB_bytes, numB_bytes, numB_bytes]; omega
theorem lenF_edit (c : Ed) : lenF (fdEdit c) = 8 + bytesI 9 c.id + c.text.size := by
  have : c.text.data.toList.length = c.text.size := Array.length_toList
  unfold lenF; rw [recF_edit, recEdit, List.length_cons, List.length_append, numB_bytes]; omega
theorem lenF_head : lenF (fdHead 0 0) = 9 := by
  unfold lenF; rw [recF_head]; rfl
end Go.Proofs.Ytdjpkgaicmklmab

/- Numbers read back: plain functions, and the reference's number, numbers, four, walked. -/
namespace Go.Proofs.Ytdjpkgaicmklmab
open Go.RowKit

/-- Bytes are added up till the first below 128. -/
def rdAcc : Nat → Nat → Int → List UInt8 → Option (Int × Nat)
  | 0, _, _, _ => none
  | _ + 1, _, _, [] => none
  | k + 1, i, v, c :: s => if c.toNat < 128 then some (v + ((c.toNat % 128 : Nat) : Int) * 128 ^ i, i + 1) else rdAcc k (i + 1) (v + ((c.toNat % 128 : Nat) : Int) * 128 ^ i) s
/-- The number with which bytes begin, and how many bytes it has. -/
def numRd (s : List UInt8) : Option (Int × Nat) := match rdAcc 9 0 0 s with
  | some (v, n) => if numB v = s.take n then some (v, n) else none
  | none => none
def rdV (x : Option (Int × Nat)) : Value := match x with
  | some (v, n) => .tuple #[.int .i64 v, .int .i64 (n : Nat)]
  | none => .tuple #[.int .i64 0, .int .i64 0]

theorem str_extract (s : List UInt8) (a b : Nat) : (str s).extract a b = str ((s.drop a).take (b - a)) := by
  have : ((str s).extract a b).data = (str ((s.drop a).take (b - a))).data := by
    rw [ByteArray.data_extract]; simp [str]
  cases h : (str s).extract a b
  rw [h] at this
  simp only [str] at this ⊢
  rw [this]
theorem str_at (s : List UInt8) (k : Nat) (h : k < (str s).size) (h2 : k < s.length) : (str s)[k]'h = s[k] := rfl
theorem str_beq (a b : List UInt8) : ((str a).toList == (str b).toList) = (a == b) := by rw [str_toList, str_toList]

theorem pow128 (i : Nat) (h : i ≤ 8) : (128 : Int) ^ i ≤ 72057594037927936 ∧ 0 < (128 : Int) ^ i := by
  have : i = 0 ∨ i = 1 ∨ i = 2 ∨ i = 3 ∨ i = 4 ∨ i = 5 ∨ i = 6 ∨ i = 7 ∨ i = 8 := by omega
  rcases this with rfl | rfl | rfl | rfl | rfl | rfl | rfl | rfl | rfl <;> decide

theorem rdAcc_le : ∀ (k i : Nat) (v : Int) (s : List UInt8) {v' : Int} {n : Nat}, rdAcc k i v s = some (v', n) → i < n ∧ n ≤ i + s.length
  | 0, _, _, _, _, _, h => by simp [rdAcc] at h
  | _ + 1, _, _, [], _, _, h => by simp [rdAcc] at h
  | k + 1, i, v, c :: s, v', n, h => by
    simp only [rdAcc] at h
    split at h
    · simp at h; simp; omega
    · have := rdAcc_le k (i + 1) _ s h; simp; omega
theorem rdAcc_num : ∀ (k i : Nat) (v : Int) (s : List UInt8) {v' : Int} {n : Nat}, rdAcc k i v s = some (v', n) → 0 ≤ v → v < 128 ^ i → i + k ≤ 9 → 0 ≤ v' ∧ v' < 128 ^ 9
  | 0, _, _, _, _, _, h, _, _, _ => by simp [rdAcc] at h
  | _ + 1, _, _, [], _, _, h, _, _, _ => by simp [rdAcc] at h
  | k + 1, i, v, c :: s, v', n, h, h0, h1, hk => by
    have hp := pow128 i (by omega)
    have m0 : 0 ≤ ((c.toNat % 128 : Nat) : Int) * 128 ^ i := Int.mul_nonneg (by omega) (by omega)
    have m1 : ((c.toNat % 128 : Nat) : Int) * 128 ^ i ≤ 127 * 128 ^ i := Int.mul_le_mul_of_nonneg_right (by omega) (by omega)
    simp only [rdAcc] at h
    split at h
    · simp at h
      obtain ⟨rfl, -⟩ := h
      simp only [Int.natCast_emod] at m0 m1
      have e9 : (128 : Int) ^ 9 = 9223372036854775808 := by decide
      rw [e9]
      have e : ((128 : Nat) : Int) = 128 := rfl
      simp only [e] at m0 m1
      generalize (128 : Int) ^ i = q at *
      omega
    · refine rdAcc_num k (i + 1) _ s h (by omega) ?_ (by omega)
      rw [Int.pow_succ]; omega
theorem numRd_le {s : List UInt8} {v : Int} {n : Nat} (h : numRd s = some (v, n)) : 0 < n ∧ n ≤ s.length ∧ Num v ∧ numB v = s.take n := by
  unfold numRd at h
  split at h
  · rename_i v' n' hr
    split at h
    · simp at h
      obtain ⟨rfl, rfl⟩ := h
      rename_i hq
      have h1 := rdAcc_le 9 0 0 s hr
      have h2 := rdAcc_num 9 0 0 s hr (by omega) (by decide) (by omega)
      have e9 : (128 : Int) ^ 9 = 9223372036854775808 := by decide
      rw [e9] at h2
      exact ⟨by omega, by omega, ⟨by omega, by omega⟩, hq⟩
    · cases h
  · cases h

/-- The k numbers with which bytes begin, and what is behind them. -/
def numsRd : Nat → List UInt8 → Option (List Int × List UInt8)
  | 0, s => some ([], s)
  | k + 1, s => match numRd s with
    | none => none
    | some (v, n) => match numsRd k (s.drop n) with
      | none => none
      | some (l, r) => some (v :: l, r)
def pre (a : List Int) (x : Option (List Int × List UInt8)) : Option (List Int × List UInt8) := x.map fun p => (a ++ p.1, p.2)
theorem numsRd_length : ∀ (k : Nat) (s : List UInt8) {l : List Int} {r : List UInt8}, numsRd k s = some (l, r) → l.length = k ∧ r.length ≤ s.length
  | 0, s, l, r, h => by simp [numsRd] at h; obtain ⟨rfl, rfl⟩ := h; simp
  | k + 1, s, l, r, h => by
    simp only [numsRd] at h
    split at h
    · cases h
    · split at h
      · cases h
      · rename_i hh
        simp at h
        obtain ⟨rfl, rfl⟩ := h
        have := numsRd_length k _ hh
        simp at this ⊢
        omega
theorem pre_some (a : List Int) (l : List Int) (r : List UInt8) : pre a (some (l, r)) = some (a ++ l, r) := rfl
theorem numsRd_step {a : List Int} {k : Nat} {s : List UInt8} {v : Int} {n : Nat} (h : numRd s = some (v, n)) : pre a (numsRd (k + 1) s) = pre (a ++ [v]) (numsRd k (s.drop n)) := by
  simp only [numsRd, h]
  cases numsRd k (s.drop n) with
  | none => rfl
  | some p => obtain ⟨l, r⟩ := p; simp [pre]
theorem numsRd_none {a : List Int} {k : Nat} {s : List UInt8} (h : numRd s = none) : pre a (numsRd (k + 1) s) = none := by
  simp only [numsRd, h]; rfl

/-- What numbers answers. -/
def NumsAns (s : List UInt8) (k : Nat) (w : World) (e : Ending) (w' : World) : Prop :=
  match numsRd k s with
  | none => e = .returned (.tuple #[.slice none 0 0, .string ⟨#[]⟩, .bool false])
  | some (l, r) => ∃ ad cap, e = .returned (.tuple #[.slice ad k cap, .string (str r), .bool true]) ∧ Vec w' w.heap.size 3 1 ad k cap (l.map (Value.int .i64))

end Go.Proofs.Ytdjpkgaicmklmab

/- Variables of the call's own that hold a struct: made, read, written, whole or by a field; the world stays a name. -/
namespace Go.Proofs.Ytdjpkgaicmklmab
open Go.RowKit

/-- A variable of the call's own: its block and its cells. -/
structure Bx (w : World) (g e : Nat) (cs : List Value) : Prop where
  h : w.heap[g]? = some (.cells cs.toArray e)

theorem Bx.lt {w : World} {g e : Nat} {cs : List Value} (b : Bx w g e cs) : g < w.heap.size := (Array.getElem?_eq_some_iff.1 b.h).1
theorem Bx.cell {w : World} {g e : Nat} {cs : List Value} (b : Bx w g e cs) (k : Nat) : w.cell? ⟨g, k, none⟩ = cs[k]? := by
  simp [World.cell?, b.h]
theorem Bx.below {w w' : World} {B g e : Nat} {cs : List Value} (b : Bx w g e cs) (hb : Below B w w') (hg : g < B) : Bx w' g e cs := ⟨by rw [hb.block g hg]; exact b.h⟩
theorem Bx.own {w : World} {g e m : Nat} {cs : List Value} (b : Bx w g e cs) (hm : cs.length = m) : Own w g e m [cs] := ⟨by intro r hr; simp at hr; subst hr; exact hm, by simpa using b.h⟩
theorem Own.bx {w : World} {g e m : Nat} {cs : List Value} (b : Own w g e m [cs]) : Bx w g e cs := ⟨by simpa using b.block⟩
theorem Bx.upd {w w' : World} {g g' e : Nat} {cs : List Value} (b : Bx w g e cs) (hu : Upd g' w w') (hg : g ≠ g') : Bx w' g e cs := ((b.own rfl).upd hu hg).bx
theorem Bx.new (w : World) (e : Nat) (cs : Array Value) : Bx (w.alloc (.cells cs e)) w.heap.size e cs.toList := ⟨by show (w.heap.push _)[w.heap.size]? = _; simp⟩
theorem Bx.alloc {w : World} {g e : Nat} {cs : List Value} (b : Bx w g e cs) (o : Obj) : Bx (w.alloc o) g e cs := b.below ((Below.refl w.heap.size w).alloc (Nat.le_refl _) o) b.lt
theorem Bx.drewN {w : World} {g e : Nat} {cs : List Value} (b : Bx w g e cs) (n : Nat) : Bx (w.drewN n) g e cs := ⟨b.h⟩

section
variable {P : Program} {w : World} {ops : Array Oper} {rest : List Oper} {o : Oper} {a : Act} {Q : Exit → Act → World → Prop}

/-- 'var x T': a new variable. -/
theorem wpList_bnew (hgd : o.guard = none) (t : TypeId) (cs : List Value) (hz : ∀ w : World, (execOp a.eval o).run P w = .ok (.value (.pointer (some ⟨w.heap.size, 0, none⟩))) (w.alloc (.cells cs.toArray t)))
    (h : ∀ g w', g = w.heap.size → w'.heap.size = g + 1 → Bx w' g t cs → Below w.heap.size w w' → wpList P ops Q rest (a.put o.dst (.pointer (some ⟨g, 0, none⟩))) w') : wpList P ops Q (o :: rest) a w := by
  refine wpList_plain hgd fun K hK => ?_
  unfold Oper.wp
  rw [hz w]
  exact hK _ _ (h w.heap.size _ rfl (by show (w.heap.push _).size = _; simp) (by have := Bx.new w t cs.toArray; simpa using this) ((Below.refl _ _).alloc (Nat.le_refl _) _))

/-- A parameter's box: '&x' of a struct that was handed in. -/
theorem wpList_bbox (hgd : o.guard = none) (t : TypeId) (x : Operand) (ho : o.op = .box t x) (cs : List Value) (hx : a.eval x = .agg cs.toArray)
    (h : ∀ g w', g = w.heap.size → w'.heap.size = g + 1 → Bx w' g t cs → Below w.heap.size w w' → wpList P ops Q rest (a.put o.dst (.pointer (some ⟨g, 0, none⟩))) w') : wpList P ops Q (o :: rest) a w := by
  refine wpList_plain hgd fun K hK => ?_
  unfold Oper.wp execOp
  simp only [ho, hx, Value.cells, Sem.run_bind, Instr.box, newVar, newRow, run_newObj_alloc, Sem.run_pure, Result.andThen_ok]
  exact hK _ _ (h w.heap.size _ rfl (by show (w.heap.push _).size = _; simp) (by have := Bx.new w t cs.toArray; simpa using this) ((Below.refl _ _).alloc (Nat.le_refl _) _))

/-- The whole of it is read. -/
theorem wpList_bload (hgd : o.guard = none) (t : TypeId) (x : Operand) (ho : o.op = .load t x) (g e : Nat) (hx : a.eval x = .pointer (some ⟨g, 0, none⟩)) (cs : List Value) (hb : Bx w g e cs) (d : TypeDesc)
    (hu : P.underlying t = some d) (hd : (match d with | .struct _ | .array _ _ => true | _ => false) = true) (m : Nat) (hm : cs.length = m) (hi : (P.info? t).map (·.size) = some m)
    (h : wpList P ops Q rest (a.put o.dst (.agg cs.toArray)) w) : wpList P ops Q (o :: rest) a w :=
  wpList_load_row hgd t x ho g hx e cs.toArray _ d hb.h hu hd (by simpa [hm] using hi) h

/-- A field is read. -/
theorem wpList_bget (hgd : o.guard = none) (t : TypeId) (x : Operand) (ho : o.op = .load t x) (g e k : Nat) (hx : a.eval x = .pointer (some ⟨g, k, none⟩)) (cs : List Value) (hb : Bx w g e cs) (v : Value) (hv : cs[k]? = some v) (d : TypeDesc)
    (hu : P.underlying t = some d) (hd : (match d with | .struct _ | .array _ _ => true | _ => false) = false)
    (h : wpList P ops Q rest (a.put o.dst v) w) : wpList P ops Q (o :: rest) a w := by
  refine wpList_plain hgd fun K hK => ?_
  have hagg : (isAgg t).run P w = .ok false w := by
    unfold isAgg
    rw [Sem.run_bind, run_underlying hu w]
    cases d <;> simp_all
  have hc := hb.cell k
  rw [hv] at hc
  have hl : (load ⟨g, k, none⟩).run P w = .ok v w := by rw [run_load, hc]
  unfold Oper.wp execOp
  simp only [ho, hx, Instr.loadAt, Instr.sureAddr, Sem.run_bind, Sem.run_pure, Result.andThen_ok, loadVar, hagg]
  simp [hl, Result.andThen_ok]
  exact hK _ _ h

/-- The whole of it is written. -/
theorem wpList_bstore (hgd : o.guard = none) (p v : Operand) (t : TypeId) (ho : o.op = .store t p v) (g e : Nat) (hp : a.eval p = .pointer (some ⟨g, 0, none⟩)) (cs vs : List Value) (hv : a.eval v = .agg vs.toArray)
    (hb : Bx w g e cs) (m : Nat) (hm : vs.length = m) (hs : (P.info? t).map (·.size) = some m) (hl : cs.length = m) (h1 : ∀ x, x ∈ vs → x.oneCell' = true)
    (h : ∀ w', Bx w' g e vs → Upd g w w' → wpList P ops Q rest (a.put o.dst undef) w') : wpList P ops Q (o :: rest) a w := by
  refine wpList_store_rows hgd p v t ho e m hs g 0 ⟨g, 0, none⟩ (by simp) hp vs hv hm h1 [cs] (hb.own hl) (by simp) ?_
  intro w' ho' hu
  exact h w' (Own.bx (by simpa using ho')) hu

/-- A field is written. -/
theorem wpList_bput (hgd : o.guard = none) (p v : Operand) (t : TypeId) (ho : o.op = .store t p v) (g e k : Nat) (hp : a.eval p = .pointer (some ⟨g, k, none⟩)) (cs : List Value) (x : Value) (hv : a.eval v = x)
    (hb : Bx w g e cs) (hs : (P.info? t).map (·.size) = some 1) (hk : k < cs.length) (h1 : x.oneCell' = true) (hc : x.cells = #[x])
    (h : ∀ w', Bx w' g e (cs.set k x) → Upd g w w' → wpList P ops Q rest (a.put o.dst undef) w') : wpList P ops Q (o :: rest) a w := by
  refine wpList_plain hgd fun K hK => ?_
  have hst := run_storeCells_at P g k e [x] 0 cs.toArray w hb.h (by simp; omega) (by simpa using h1)
  have e2 : cs.toArray.toList.take (k + 0) ++ [x] ++ cs.toArray.toList.drop (k + 0 + [x].length) = cs.set k x := by
    simp [List.set_eq_take_append_cons_drop, hk]
  rw [e2] at hst
  cases hq : P.info? t with
  | none => simp [hq] at hs
  | some inf =>
    have hi' : inf.size = 1 := by simpa [hq] using hs
    unfold Oper.wp
    simp [execOp, ho, hp, hv, Instr.storeAt, Instr.sureAddr, storeVar, sizeOf, typeInfo, hq, hi', hc, hst, Result.andThen]
    exact hK _ _ (h _ ⟨setRow_heap w g _ _ e _ hb.h⟩ (Upd.setRow _ _ _))
end

/-- A call's results of which the first lies in a variable of the call's own. -/
theorem results_box2 {P : Program} {fn : Func} {p q : Nat} {ty : TypeId} (h : fn.results = #[.cell p ty, .tmp q]) (tmps : Array Value) (w : World) (g e : Nat) (cs : List Value) (d : TypeDesc) (v : Value)
    (hp : tmps.getD p undef = .pointer (some ⟨g, 0, none⟩)) (hb : Bx w g e cs) (hq : tmps.getD q undef = v)
    (hu : P.underlying ty = some d) (hd : (match d with | .struct _ | .array _ _ => true | _ => false) = true) (m : Nat) (hm : cs.length = m) (hi : (P.info? ty).map (·.size) = some m) :
    (results fn tmps).run P w = .ok (.tuple #[.agg cs.toArray, v]) w := by
  have hp' : tmps[p]?.getD undef = .pointer (some ⟨g, 0, none⟩) := by simpa using hp
  have hq' : tmps[q]?.getD undef = v := by simpa using hq
  simp [results, h, hp', hq', asAddr, run_loadVar_row w g e ty cs.toArray _ d hb.h hu hd (by simpa [hm] using hi)]
theorem results_box3 {P : Program} {fn : Func} {p q r : Nat} {ty : TypeId} (h : fn.results = #[.cell p ty, .tmp q, .tmp r]) (tmps : Array Value) (w : World) (g e : Nat) (cs : List Value) (d : TypeDesc) (v u : Value)
    (hp : tmps.getD p undef = .pointer (some ⟨g, 0, none⟩)) (hb : Bx w g e cs) (hq : tmps.getD q undef = v) (hr : tmps.getD r undef = u)
    (hu : P.underlying ty = some d) (hd : (match d with | .struct _ | .array _ _ => true | _ => false) = true) (m : Nat) (hm : cs.length = m) (hi : (P.info? ty).map (·.size) = some m) :
    (results fn tmps).run P w = .ok (.tuple #[.agg cs.toArray, v, u]) w := by
  have hp' : tmps[p]?.getD undef = .pointer (some ⟨g, 0, none⟩) := by simpa using hp
  have hq' : tmps[q]?.getD undef = v := by simpa using hq
  have hr' : tmps[r]?.getD undef = u := by simpa using hr
  simp [results, h, hp', hq', hr', asAddr, run_loadVar_row w g e ty cs.toArray _ d hb.h hu hd (by simpa [hm] using hi)]
theorem results_box1 {P : Program} {fn : Func} {p : Nat} {ty : TypeId} (h : fn.results = #[.cell p ty]) (tmps : Array Value) (w : World) (g e : Nat) (cs : List Value) (d : TypeDesc)
    (hp : tmps.getD p undef = .pointer (some ⟨g, 0, none⟩)) (hb : Bx w g e cs)
    (hu : P.underlying ty = some d) (hd : (match d with | .struct _ | .array _ _ => true | _ => false) = true) (m : Nat) (hm : cs.length = m) (hi : (P.info? ty).map (·.size) = some m) :
    (results fn tmps).run P w = .ok (.agg cs.toArray) w :=
  results_cell_row h tmps w g e cs.toArray _ d hp hb.h hu hd (by simpa [hm] using hi)
theorem two_boxes (w : World) (e1 e2 : Nat) (a b : Array Value) : Bx ((w.alloc (.cells a e1)).alloc (.cells b e2)) w.heap.size e1 a.toList ∧ Bx ((w.alloc (.cells a e1)).alloc (.cells b e2)) (w.heap.size + 1) e2 b.toList ∧
    ((w.alloc (.cells a e1)).alloc (.cells b e2)).heap.size = w.heap.size + 2 ∧ Below w.heap.size w ((w.alloc (.cells a e1)).alloc (.cells b e2)) := by
  have hs : (w.alloc (.cells a e1)).heap.size = w.heap.size + 1 := by show (w.heap.push _).size = _; simp
  have h2 := Bx.new (w.alloc (.cells a e1)) e2 b
  rw [hs] at h2
  exact ⟨(Bx.new w e1 a).alloc _, h2, by show ((w.alloc _).heap.push _).size = _; simp [hs], ((Below.refl _ _).alloc (Nat.le_refl _) _).alloc (by rw [hs]; omega) _⟩
theorem one_box (w : World) (e : Nat) (a : Array Value) : Bx (w.alloc (.cells a e)) w.heap.size e a.toList ∧ (w.alloc (.cells a e)).heap.size = w.heap.size + 1 ∧ Below w.heap.size w (w.alloc (.cells a e)) :=
  ⟨Bx.new w e a, by show (w.heap.push _).size = _; simp, (Below.refl _ _).alloc (Nat.le_refl _) _⟩

/-- A list that is not empty lies in such a variable. -/
theorem Vec.bx {w : World} {B e m : Nat} {ad : Option Addr} {n cap : Nat} {xs : List Value} (h : Vec w B e m ad n cap xs) (hn : 0 < n) : ∃ g sp, ad = some ⟨g, 0, none⟩ ∧ B ≤ g ∧ g < w.heap.size ∧ Bx w g e (xs ++ sp) := by
  rcases h.2 with ⟨h2, _⟩ | ⟨g, c, cur, hv, hB, hg, _, _, _, ht⟩
  · omega
  · simp at hv
    refine ⟨g, cur.toList.drop xs.length, hv.1, hB, (Array.getElem?_eq_some_iff.1 hg).1, ⟨?_⟩⟩
    have e : xs ++ cur.toList.drop xs.length = cur.toList := by
      have := List.take_append_drop xs.length cur.toList
      rw [show xs.length = n * m from h.1] at this ⊢
      rw [← this, ht]
      simp [show xs.length = n * m from h.1]
    rw [e, hg]
theorem Vec.upd {w w' : World} {B e m g : Nat} {ad : Option Addr} {n cap : Nat} {xs : List Value} (h : Vec w B e m ad n cap xs) (hu : Upd g w w') (hg : g < B) : Vec w' B e m ad n cap xs := by
  refine ⟨h.1, ?_⟩
  rcases h.2 with h2 | ⟨k, c, cur, hv, hB, hk, r⟩
  · exact Or.inl h2
  · exact Or.inr ⟨k, c, cur, hv, hB, by rw [hu.block k (by omega)]; exact hk, r⟩
end Go.Proofs.Ytdjpkgaicmklmab

/- Records read back: the reference's four and record, walked. -/
namespace Go.Proofs.Ytdjpkgaicmklmab
open Go.RowKit

/-- The number of four bytes. -/
def fourRd (s : List UInt8) : Int := ((s.getD 0 0).toNat : Int) * 16777216 + ((s.getD 1 0).toNat : Int) * 65536 + ((s.getD 2 0).toNat : Int) * 256 + ((s.getD 3 0).toNat : Int)

/-- What bytes are, as a record. -/
def recRd : List UInt8 → Option Fd
  | [] => none
  | c :: s =>
    if c = 4 then match numsRd 1 s with
      | some ([q], r) => if q = 0 then (if r = [] then some (fdHead 0 0) else none) else if r.length = 4 then some (fdHead q (fourRd r)) else none
      | _ => none
    else if c = 1 then match numsRd 2 s with
      | some ([a, b], r) => if r = [] then some (fdClock ⟨a, b⟩) else none
      | _ => none
    else if c = 2 then match numsRd 3 s with
      | some ([a, b, d], g :: t) => if g.toNat ≤ 1 then some (fdCard ⟨a, b, d, g == 1, str t⟩) else none
      | _ => none
    else if c = 3 then match numsRd 1 s with
      | some ([a], t) => some (fdEdit ⟨a, str t⟩)
      | _ => none
    else none

abbrev fdV (f : Fd) : Value := .agg f.cells.toArray
def fd0 : Fd := ⟨0, 0, 0, 0, 0, 0, 0, false, ⟨#[]⟩⟩

/-- What record answers. -/
def RecAns (s : List UInt8) (e : Ending) : Prop := ∃ (f : Fd) (b : Bool), e = .returned (.tuple #[fdV f, .bool b]) ∧ recRd s = if b then some f else none


/-- A record of which the kind alone is known. -/
def fdK (k : Int) : Fd := ⟨0, k, 0, 0, 0, 0, 0, false, ⟨#[]⟩⟩

end Go.Proofs.Ytdjpkgaicmklmab

/- Numbers and sums read back, without the program: when the bytes that were added up are those that are written. -/
namespace Go.Proofs.Ytdjpkgaicmklmab
open Go.RowKit

/-- Digits, the lowest first. -/
def valB : List UInt8 → Int
  | [] => 0
  | c :: s => ((c.toNat % 128 : Nat) : Int) + 128 * valB s
/-- All but the last byte have 128 added. -/
def wfB : List UInt8 → Prop
  | [] => False
  | [c] => c.toNat < 128
  | c :: d :: t => 128 ≤ c.toNat ∧ wfB (d :: t)

theorem valB_nonneg : ∀ l, 0 ≤ valB l
  | [] => by simp [valB]
  | c :: s => by have := valB_nonneg s; simp only [valB]; omega
theorem byt_of (c : UInt8) (n : Int) (h : n = (c.toNat : Int)) : byt n = c := by
  subst h; simp [byt]
theorem numB_wf : ∀ (k : Nat) (l : List UInt8), wfB l → l.length ≤ k + 1 → ((numI k (valB l)).map byt = l ↔ (l.length = 1 ∨ l.getLast? ≠ some 0))
  | k, [], h, _ => h.elim
  | k, [c], h, _ => by
    have h : c.toNat < 128 := h
    have e : valB [c] = (c.toNat : Int) := by simp only [valB]; omega
    rw [e, numI_small k _ (by omega)]
    simp [byt_of c _ rfl]
  | 0, c :: d :: t, h, hl => by simp at hl
  | k + 1, c :: d :: t, h, hl => by
    obtain ⟨h1, h2⟩ := h
    have ih := numB_wf k (d :: t) h2 (by simp at hl ⊢; omega)
    have hn := valB_nonneg (d :: t)
    have hc := c.toNat_lt
    have e : valB (c :: d :: t) = ((c.toNat % 128 : Nat) : Int) + 128 * valB (d :: t) := rfl
    have hlast : (c :: d :: t).getLast? = (d :: t).getLast? := by simp [List.getLast?_cons]
    rw [hlast]
    simp only [numI]
    by_cases hv : valB (c :: d :: t) < 128
    · rw [if_pos hv]
      have h0 : valB (d :: t) = 0 := by omega
      constructor
      · intro h; have := congrArg List.length h; simp at this
      · intro h
        exfalso
        rcases h with h | h
        · simp at h
        · rw [h0] at ih
          have e0 : (numI k 0).map byt = [0] := by rw [numI_small k 0 (by omega)]; rfl
          rw [e0] at ih
          have := ih.2 (Or.inr h)
          rw [← this] at h
          exact h rfl
    · rw [if_neg hv]
      have hq : valB (c :: d :: t) / 128 = valB (d :: t) := by omega
      have hr : valB (c :: d :: t) % 128 + 128 = (c.toNat : Int) := by omega
      rw [hq, hr, List.map_cons, byt_of c _ rfl]
      constructor
      · intro h
        have h' : (numI k (valB (d :: t))).map byt = d :: t := by simpa using h
        rcases ih.1 h' with h3 | h3
        · right
          have ht : t = [] := by simpa using h3
          subst ht
          intro hh
          have hd : d = 0 := by simpa using hh
          subst hd
          have : valB [0] = 0 := rfl
          omega
        · exact Or.inr h3
      · intro h
        have h3 : (d :: t).getLast? ≠ some 0 := by
          rcases h with h | h
          · simp at h
          · exact h
        rw [ih.2 (Or.inr h3)]

theorem rdAcc_val : ∀ (k i : Nat) (v : Int) (s : List UInt8) {v' : Int} {n : Nat}, rdAcc k i v s = some (v', n) → wfB (s.take (n - i)) ∧ v' = v + valB (s.take (n - i)) * 128 ^ i ∧ (s.take (n - i)).length = n - i ∧ i < n ∧ n ≤ i + k
  | 0, _, _, _, _, _, h => by simp [rdAcc] at h
  | _ + 1, _, _, [], _, _, h => by simp [rdAcc] at h
  | k + 1, i, v, c :: s, v', n, h => by
    simp only [rdAcc] at h
    split at h
    · rename_i hc
      simp at h
      obtain ⟨rfl, rfl⟩ := h
      have e1 : i + 1 - i = 1 := by omega
      have : ((c.toNat % 128 : Nat) : Int) = (c.toNat : Int) % 128 := by omega
      rw [e1]
      simp [wfB, valB, hc]
    · rename_i hc
      obtain ⟨h1, h2, h3, h4, h5⟩ := rdAcc_val k (i + 1) _ s h
      have e1 : n - i = (n - (i + 1)) + 1 := by omega
      rw [e1, List.take_succ_cons]
      refine ⟨?_, ?_, by simpa using h3, by omega, by omega⟩
      · cases ht : s.take (n - (i + 1)) with
        | nil => rw [ht] at h1; exact h1.elim
        | cons d t => rw [ht] at h1; exact ⟨by omega, h1⟩
      · rw [h2, valB, Int.pow_succ]
        have : ∀ a b c q : Int, a + b * q + c * (q * 128) = a + (b + 128 * c) * q := by intro a b c q; rw [Int.add_mul]; have : c * (q * 128) = 128 * c * q := by rw [Int.mul_comm 128 c, Int.mul_assoc, Int.mul_comm q 128]
                                                                                        rw [this]; omega
        exact this _ _ _ _

/-- Bytes that were added up are those that are written, but for a needless 0 at the end. -/
theorem numRd_last {s : List UInt8} {v : Int} {i : Nat} (h : rdAcc 9 0 0 s = some (v, i + 1)) (hi : i < s.length) : numRd s = if s[i].toNat % 128 = 0 ∧ 0 < i then none else some (v, i + 1) := by
  obtain ⟨h1, h2, h3, _, h5⟩ := rdAcc_val 9 0 0 s h
  simp only [Nat.sub_zero] at h1 h2 h3
  have hv : v = valB (s.take (i + 1)) := by rw [h2]; simp
  have hw := numB_wf 9 (s.take (i + 1)) h1 (by omega)
  rw [← hv] at hw
  have hlast : (s.take (i + 1)).getLast? = some s[i] := by
    rw [List.getLast?_eq_getElem?, h3]; simp [hi]
  have hlt : s[i].toNat < 128 := by
    have : ∀ l : List UInt8, wfB l → ∀ c, l.getLast? = some c → c.toNat < 128 := by
      intro l
      induction l with
      | nil => intro h; exact h.elim
      | cons a l ih =>
        cases l with
        | nil => intro h c hc; simp at hc; subst hc; exact h
        | cons b l => intro h c hc; exact ih h.2 c (by simpa [List.getLast?_cons] using hc)
    exact this _ h1 _ hlast
  unfold numRd
  rw [h]
  simp only
  rw [hlast, h3] at hw
  unfold numB
  by_cases hz : s[i].toNat % 128 = 0 ∧ 0 < i
  · rw [if_pos hz, if_neg]
    intro hh
    rcases hw.1 hh with h | h
    · omega
    · exact h (by rw [show s[i] = 0 from UInt8.toNat_inj.1 (by show s[i].toNat = 0; omega)])
  · rw [if_neg hz, if_pos]
    refine hw.2 ?_
    by_cases h0 : i = 0
    · left; omega
    · right
      intro hh
      have : s[i] = 0 := by simpa using hh
      rw [this] at hz
      exact hz ⟨rfl, by omega⟩

theorem byt_toNat (n : Int) (h0 : 0 ≤ n) (h1 : n < 256) : ((byt n).toNat : Int) = n := by
  simp [byt]; omega
theorem fourRd_four (n : Int) (h0 : 0 ≤ n) (h1 : n < 4294967296) : fourRd (fourI n) = n := by
  have a := byt_toNat (n / 16777216) (by omega) (by omega)
  have b := byt_toNat (n / 65536 % 256) (by omega) (by omega)
  have c := byt_toNat (n / 256 % 256) (by omega) (by omega)
  have d := byt_toNat (n % 256) (by omega) (by omega)
  simp only [fourRd, fourI, List.getD_cons_zero, List.getD_cons_succ]
  rw [a, b, c, d]
  omega
theorem four_fourRd {s : List UInt8} (h : s.length = 4) : fourI (fourRd s) = s := by
  match s, h with
  | [a, b, c, d], _ =>
    have := a.toNat_lt; have := b.toNat_lt; have := c.toNat_lt; have := d.toNat_lt
    simp only [fourRd, fourI, List.getD_cons_zero, List.getD_cons_succ]
    rw [byt_of a _ (by omega), byt_of b _ (by omega), byt_of c _ (by omega), byt_of d _ (by omega)]
theorem fourRd_iff {s : List UInt8} (h : s.length = 4) (n : Int) (h0 : 0 ≤ n) (h1 : n < 4294967296) : fourRd s = n ↔ fourI n = s := by
  constructor
  · intro e; rw [← e]; exact four_fourRd h
  · intro e; rw [← e]; exact fourRd_four n h0 h1
theorem fourRd_bound {s : List UInt8} (h : s.length = 4) : 0 ≤ fourRd s ∧ fourRd s < 4294967296 := by
  match s, h with
  | [a, b, c, d], _ =>
    have := a.toNat_lt; have := b.toNat_lt; have := c.toNat_lt; have := d.toNat_lt
    simp only [fourRd, List.getD_cons_zero, List.getD_cons_succ]
    omega
end Go.Proofs.Ytdjpkgaicmklmab

/- The program's firstNumber and fromFourBytes, walked. -/
namespace Go.Proofs.Ytdjpkgaicmklmab
open Go.RowKit

set_option maxRecDepth 100000 in
set_option maxHeartbeats 4000000 in
theorem firstNumber_any (s : List UInt8) (w : World) (hs : s.length ≤ 9223372036854775807) :
    Calls Try.prog 109 #[.string (str s)] w fun e w' => e = .returned (rdV (numRd s)) ∧ w' = w := by
  have hz := str_size s
  have HZ : Hid ((str s).size = s.length) := hz
  clear hz
  have hs2 : (str s).size ≤ 9223372036854775807 := by rw [HZ.out]; exact hs
  go_enter Try.func109, Try.ntmps109
  go_wp2
  go_loopw [4, 5, 6] (fun u q _ wr => ∃ (i : Nat) (v : Int), i ≤ 9 ∧ i ≤ (str s).size ∧ q = .int .i64 i ∧ u = .int .i64 v ∧ 0 ≤ v ∧ v < 128 ^ i ∧ rdAcc (9 - i) i v (s.drop i) = rdAcc 9 0 0 s ∧ wr = w) (fun _ q _ _ => 9 - (intOf q).toNat)
  case atStart => exact ⟨0, 0, by omega, by omega, rfl, rfl, by omega, by omega, rfl, rfl⟩
  case round =>
    obtain ⟨i, v, hi9, hi, rfl, rfl, v0, v1, hr, hw⟩ := hrel
    obtain rfl := hw.symm
    have HR : Hid (rdAcc (9 - i) i v (s.drop i) = rdAcc 9 0 0 s) := hr
    clear hr
    by_cases hlt : i < (str s).size
    · by_cases hl9 : i < 9
      · have hlt2 : i < s.length := by rw [← HZ.out]; exact hlt
        have hp := pow128 i (by omega)
        have HV : Hid (v < 128 ^ i) := v1
        clear v1
        have hb := (s[i]).toNat_lt
        have e0 : ((str s)[i]'hlt).toNat = s[i].toNat := rfl
        have hb2 : ((str s)[i]'hlt).toNat < 256 := by rw [e0]; exact hb
        have e2 : wrap64 (((str s)[i]'hlt).toNat : Int) = (((str s)[i]'hlt).toNat : Int) := by unfold wrap64; omega
        have hm0 : ((s[i].toNat % 128 : Nat) : Int) = (s[i].toNat : Int) % 128 := by omega
        have ev : wrap64 (v + wrap64 ((((str s)[i]'hlt).toNat : Int) % 128 * 2 ^ (7 * i))) = v + ((s[i].toNat % 128 : Nat) : Int) * 128 ^ i := by
          have e1 : (2 : Int) ^ (7 * i) = 128 ^ i := by rw [Int.pow_mul]; rfl
          rw [e0, e1, ← hm0]
          have h1 : ((s[i].toNat % 128 : Nat) : Int) * 128 ^ i ≤ 127 * 128 ^ i := Int.mul_le_mul_of_nonneg_right (by omega) (by omega)
          have h0 : 0 ≤ ((s[i].toNat % 128 : Nat) : Int) * 128 ^ i := Int.mul_nonneg (by omega) (by omega)
          have h2 := HV.out
          generalize ((s[i].toNat % 128 : Nat) : Int) * 128 ^ i = m at *
          generalize (128 : Int) ^ i = q at *
          unfold wrap64
          omega
        have hv' : 0 ≤ v + ((s[i].toNat % 128 : Nat) : Int) * 128 ^ i ∧ v + ((s[i].toNat % 128 : Nat) : Int) * 128 ^ i < 128 ^ (i + 1) ∧ v + ((s[i].toNat % 128 : Nat) : Int) * 128 ^ i ≤ 9223372036854775807 := by
          have h1 : ((s[i].toNat % 128 : Nat) : Int) * 128 ^ i ≤ 127 * 128 ^ i := Int.mul_le_mul_of_nonneg_right (by omega) (by omega)
          have h0 : 0 ≤ ((s[i].toNat % 128 : Nat) : Int) * 128 ^ i := Int.mul_nonneg (by omega) (by omega)
          have h2 := HV.out
          rw [Int.pow_succ]
          generalize ((s[i].toNat % 128 : Nat) : Int) * 128 ^ i = m at *
          generalize (128 : Int) ^ i = q at *
          omega
        have hstep : rdAcc 9 0 0 s = if s[i].toNat < 128 then some (v + ((s[i].toNat % 128 : Nat) : Int) * 128 ^ i, i + 1) else rdAcc (9 - (i + 1)) (i + 1) (v + ((s[i].toNat % 128 : Nat) : Int) * 128 ^ i) (s.drop (i + 1)) := by
          rw [← HR.out, List.drop_eq_getElem_cons hlt2, show 9 - i = (9 - (i + 1)) + 1 by omega]
          rfl
        have HS : Hid (rdAcc 9 0 0 s = if s[i].toNat < 128 then some (v + ((s[i].toNat % 128 : Nat) : Int) * 128 ^ i, i + 1) else rdAcc (9 - (i + 1)) (i + 1) (v + ((s[i].toNat % 128 : Nat) : Int) * 128 ^ i) (s.drop (i + 1))) := hstep
        have HE2 : Hid (wrap64 (v + wrap64 ((((str s)[i]'hlt).toNat : Int) % 128 * 2 ^ (7 * i))) = v + ((s[i].toNat % 128 : Nat) : Int) * 128 ^ i) := ev
        clear hstep ev HR hm0 e0
        generalize hV : v + ((s[i].toNat % 128 : Nat) : Int) * 128 ^ i = V at *
        clear hV
        by_cases hc : ((str s)[i]'hlt).toNat < 128
        · have HA : Hid (rdAcc 9 0 0 s = some (V, i + 1)) := by show _ = _; rw [HS.out]; exact if_pos hc
          have HN := numRd_last HA.out hlt2
          have hc' : ¬ (128 ≤ ((str s)[i]'hlt).toNat) := by omega
          by_cases hd : ((str s)[i]'hlt).toNat % 128 = 0
          · have hd' : ((((str s)[i]'hlt).toNat : Int) % 128 == 0) = true := by simp; omega
            by_cases hi0 : 0 < i
            · have HN2 : Hid (numRd s = none) := by show _ = _; rw [HN, if_pos ⟨hd, hi0⟩]
              clear HN HA HS
              go_wp2_with fail
              go_ret2
              exact ⟨by rw [HN2.out]; rfl, by first | rfl | trivial⟩
            · have HN2 : Hid (numRd s = some (V, i + 1)) := by show _ = _; rw [HN, if_neg (fun h => hi0 h.2)]
              clear HN HA HS
              go_wp2_with fail
              go_ret2
              exact ⟨by rw [HN2.out, ← HE2.out]; rfl, by first | rfl | trivial⟩
          · have hd' : ((((str s)[i]'hlt).toNat : Int) % 128 == 0) = false := by rw [beq_eq_false_iff_ne]; omega
            have HN2 : Hid (numRd s = some (V, i + 1)) := by show _ = _; rw [HN, if_neg (fun h => hd h.1)]
            clear HN HA HS
            go_wp2_with fail
            go_ret2
            exact ⟨by rw [HN2.out, ← HE2.out]; rfl, by first | rfl | trivial⟩
        · have HA : Hid (rdAcc (9 - (i + 1)) (i + 1) V (s.drop (i + 1)) = rdAcc 9 0 0 s) := by show _ = _; rw [HS.out]; exact (if_neg hc).symm
          clear HS
          go_wp2_with fail
          rw [HE2.out]
          go_roundw
          case rel => exact ⟨i + 1, V, by omega, by omega, by go_num, rfl, hv'.1, hv'.2.1, HA.out, by first | rfl | trivial⟩
          case measure => simp [intOf]; omega
      · have HN : Hid (numRd s = none) := by
          have : 9 - i = 0 := by omega
          have h := HR.out
          rw [this] at h
          show _ = _; unfold numRd; rw [← h]; rfl
        go_wp2_with fail
        go_ret2
        exact ⟨by rw [HN.out]; rfl, by first | rfl | trivial⟩
    · have HN : Hid (numRd s = none) := by
        have h := HR.out
        rw [List.drop_of_length_le (by rw [← HZ.out]; omega)] at h
        have : rdAcc (9 - i) i v [] = none := by cases 9 - i <;> rfl
        show _ = _; unfold numRd; rw [← h, this]
      go_wp2_with fail
      go_ret2
      exact ⟨by rw [HN.out]; rfl, by first | rfl | trivial⟩
end Go.Proofs.Ytdjpkgaicmklmab

/- The program's fromFourBytes, walked. -/
namespace Go.Proofs.Ytdjpkgaicmklmab
open Go.RowKit

def fold4 (l : List UInt8) : Int := l.foldl (fun n c => n * 256 + (c.toNat : Int)) 0
theorem fold4_four {s : List UInt8} (h : s.length = 4) : fold4 s = fourRd s := by
  match s, h with
  | [a, b, c, d], _ => simp only [fold4, fourRd, List.foldl, List.getD_cons_zero, List.getD_cons_succ]; omega
theorem fold4_step (s : List UInt8) (i : Nat) (h : i < s.length) : fold4 (s.take (i + 1)) = fold4 (s.take i) * 256 + (s[i].toNat : Int) := by
  unfold fold4
  rw [List.take_add_one, List.foldl_append, List.getElem?_eq_getElem h]
  rfl

set_option maxRecDepth 100000 in
set_option maxHeartbeats 4000000 in
theorem fromFour_any (s : List UInt8) (w : World) (hs : s.length = 4) :
    Calls Try.prog 98 #[.string (str s)] w fun e w' => e = .returned (.int .i64 (fourRd s)) ∧ w' = w := by
  have hz : (str s).size = 4 := by rw [str_size, hs]
  have HZ : Hid ((str s).size = 4) := hz
  have hz2 : (str s).size ≤ 4 := by omega
  have hz3 : 4 ≤ (str s).size := by omega
  have HS : Hid (s.length = 4) := hs
  clear hz hs
  go_enter Try.func98, Try.ntmps98
  go_wp2
  go_loopw [3, 4] (fun u q wr => ∃ (i : Nat) (v : Int), i ≤ (str s).size ∧ q = .int .i64 i ∧ u = .int .i64 v ∧ 0 ≤ v ∧ v < 256 ^ i ∧ v = fold4 (s.take i) ∧ wr = w) (fun _ q _ => 4 - (intOf q).toNat)
  case atStart => exact ⟨0, 0, by omega, rfl, rfl, by omega, by omega, rfl, rfl⟩
  case round =>
    obtain ⟨i, v, hi, rfl, rfl, v0, v1, hr, hw⟩ := hrel
    obtain rfl := hw.symm
    have HR : Hid (v = fold4 (s.take i)) := hr
    clear hr
    have hp : (256 : Int) ^ i ≤ 4294967296 ∧ 0 < (256 : Int) ^ i := by
      have : i = 0 ∨ i = 1 ∨ i = 2 ∨ i = 3 ∨ i = 4 := by omega
      rcases this with rfl | rfl | rfl | rfl | rfl <;> decide
    by_cases hlt : i < (str s).size
    · have hlt2 : i < s.length := by have := HS.out; omega
      have hb : ((str s)[i]'hlt).toNat < 256 := (s[i]).toNat_lt
      have hv2 : v * 256 + (((str s)[i]'hlt).toNat : Int) < 256 ^ (i + 1) := by rw [Int.pow_succ]; omega
      have hp2 : (256 : Int) ^ (i + 1) ≤ 4294967296 := by
        have : i = 0 ∨ i = 1 ∨ i = 2 ∨ i = 3 := by omega
        rcases this with rfl | rfl | rfl | rfl <;> decide
      have HN : Hid (v * 256 + (((str s)[i]'hlt).toNat : Int) = fold4 (s.take (i + 1))) := by
        show _ = _; rw [fold4_step s i hlt2, ← HR.out]; rfl
      go_wp2_with fail
      refine ⟨⟨i + 1, _, by omega, by go_num, rfl, by omega, hv2, HN.out, trivial⟩, ?_⟩
      simp [intOf]; omega
    · have HN : Hid (v = fourRd s) := by
        have h := HR.out
        rw [List.take_of_length_le (by have := HS.out; omega), fold4_four HS.out] at h
        exact h
      go_wp2_with fail
      go_ret
      exact ⟨ret_int HN.out, by first | rfl | trivial⟩
end Go.Proofs.Ytdjpkgaicmklmab

/- The program's cursor: what it takes off a record's front, walked. -/
namespace Go.Proofs.Ytdjpkgaicmklmab
open Go.RowKit

/-- A cursor: what is left, and whether it has failed. -/
abbrev Cu := List UInt8 × Bool
abbrev Cu.cells (c : Cu) : List Value := [.string (str c.1), .bool c.2]
abbrev CuAt (w : World) (g : Nat) (c : Cu) : Prop := Bx w g 137 c.cells
def cuNum (c : Cu) : Int × Cu := match numRd c.1 with
  | some (v, n) => (v, c.1.drop n, c.2)
  | none => (0, c.1, true)
def cuFour (c : Cu) : Int × Cu := if c.1.length < 4 then (0, c.1, true) else (fourRd (c.1.take 4), c.1.drop 4, c.2)
def cuEnd (c : Cu) : Cu := if c.1 = [] then c else (c.1, true)
def cuFlag (c : Cu) : Bool × Cu := match c.1 with
  | [] => (false, c.1, true)
  | x :: t => if 1 < x.toNat then (false, c.1, true) else (x == 1, t, c.2)

set_option maxRecDepth 100000 in
set_option maxHeartbeats 4000000 in
theorem cuNum_any (c : Cu) (g : Nat) (w : World) (hc : CuAt w g c) (hs : c.1.length ≤ 9223372036854775807) :
    Calls Try.prog 105 #[.pointer (some ⟨g, 0, none⟩)] w fun e w' => e = .returned (.int .i64 (cuNum c).1) ∧ CuAt w' g (cuNum c).2 ∧ Upd g w w' := by
  obtain ⟨s, d⟩ := c
  have hU : Upd g w w := Upd.refl g w
  have c0 := hc.cell 0
  dsimp only [Cu.cells, List.getElem?_cons_zero] at c0
  go_enter Try.func105, Try.ntmps105
  go_wp2_with fail
  refine (firstNumber_any s _ hs).mono ?_
  rintro e w1 ⟨rfl, rfl⟩
  cases hn : numRd s with
  | none =>
    have HN : Hid (cuNum (s, d) = (0, s, true)) := by show _ = _; simp [cuNum, hn]
    clear hn
    simp only [rdV]
    go_wp2_with (refine wpList_bput (by rfl) _ _ 4 (by rfl) g 137 1 (by rfl) _ (.bool true) (by rfl) hc (by kernel_rfl) (by simp) (by rfl) (by rfl) ?_; intro w9 hc9 hU9; replace hc := hc9; replace hU := hU.trans hU9; clear hc9 hU9 c0; dsimp only [List.set] at hc)
    go_ret
    rw [HN.out]
    exact ⟨rfl, hc, hU⟩
  | some p =>
    obtain ⟨v, n⟩ := p
    obtain ⟨n0, n1, nv, -⟩ := numRd_le hn
    have HN : Hid (cuNum (s, d) = (v, s.drop n, d)) := by show _ = _; simp [cuNum, hn]
    clear hn
    have hnz : ((n : Int) == 0) = false := by simp; omega
    have hle : (n : Int) ≤ ((str s).size : Int) := by rw [str_size]; omega
    have hx : (str s).extract n (str s).size = str (s.drop n) := by rw [str_extract, str_size, List.take_of_length_le (by simp)]
    simp only [rdV]
    go_wp2_with (refine wpList_bput (by rfl) _ _ 9 (by rfl) g 137 0 (by rfl) _ (.string _) (by rfl) hc (by kernel_rfl) (by simp) (by rfl) (by rfl) ?_; intro w9 hc9 hU9; replace hc := hc9; replace hU := hU.trans hU9; clear hc9 hU9 c0; dsimp only [List.set] at hc)
    go_ret
    rw [HN.out]
    exact ⟨rfl, hc, hU⟩

set_option maxRecDepth 100000 in
set_option maxHeartbeats 4000000 in
theorem cuFour_any (c : Cu) (g : Nat) (w : World) (hc : CuAt w g c) (hs : c.1.length ≤ 9223372036854775807) :
    Calls Try.prog 106 #[.pointer (some ⟨g, 0, none⟩)] w fun e w' => e = .returned (.int .i64 (cuFour c).1) ∧ CuAt w' g (cuFour c).2 ∧ Upd g w w' := by
  obtain ⟨s, d⟩ := c
  have hU : Upd g w w := Upd.refl g w
  have c0 := hc.cell 0
  dsimp only [Cu.cells, List.getElem?_cons_zero] at c0
  have hz := str_size s
  have HZ : Hid ((str s).size = s.length) := hz
  by_cases h4 : (str s).size < 4
  · have HN : Hid (cuFour (s, d) = (0, s, true)) := by show _ = _; simp only [cuFour, if_pos (show s.length < 4 by omega)]
    clear hz
    go_enter Try.func106, Try.ntmps106
    go_wp2_with (refine wpList_bput (by rfl) _ _ 4 (by rfl) g 137 1 (by rfl) _ (.bool true) (by rfl) hc (by kernel_rfl) (by simp) (by rfl) (by rfl) ?_; intro w9 hc9 hU9; replace hc := hc9; replace hU := hU.trans hU9; clear hc9 hU9 c0; dsimp only [List.set] at hc)
    go_ret
    rw [HN.out]
    exact ⟨rfl, hc, hU⟩
  · have HN : Hid (cuFour (s, d) = (fourRd (s.take 4), s.drop 4, d)) := by show _ = _; simp only [cuFour, if_neg (show ¬ s.length < 4 by omega)]
    have hle : (4 : Int) ≤ ((str s).size : Int) := by omega
    have hx : (str s).extract 4 (str s).size = str (s.drop 4) := by rw [str_extract, str_size, List.take_of_length_le (by simp)]
    have hx2 : (str s).extract 0 4 = str (s.take 4) := by rw [str_extract]; simp
    have hl4 : (s.take 4).length = 4 := by simp; omega
    clear hz
    go_enter Try.func106, Try.ntmps106
    go_wp2_with fail
    refine (fromFour_any (s.take 4) _ hl4).mono ?_
    rintro e w1 ⟨rfl, rfl⟩
    go_wp2_with (refine wpList_bput (by rfl) _ _ 9 (by rfl) g 137 0 (by rfl) _ (.string _) (by rfl) hc (by kernel_rfl) (by simp) (by rfl) (by rfl) ?_; intro w9 hc9 hU9; replace hc := hc9; replace hU := hU.trans hU9; clear hc9 hU9 c0; dsimp only [List.set] at hc)
    go_ret
    rw [HN.out]
    exact ⟨rfl, hc, hU⟩

set_option maxRecDepth 100000 in
set_option maxHeartbeats 4000000 in
theorem cuEnd_any (c : Cu) (g : Nat) (w : World) (hc : CuAt w g c) :
    Calls Try.prog 107 #[.pointer (some ⟨g, 0, none⟩)] w fun e w' => (∃ v, e = .returned v) ∧ CuAt w' g (cuEnd c) ∧ Upd g w w' := by
  obtain ⟨s, d⟩ := c
  have hU : Upd g w w := Upd.refl g w
  have c0 := hc.cell 0
  dsimp only [Cu.cells, List.getElem?_cons_zero] at c0
  cases s with
  | nil =>
    have hre : (str []).toList.isEmpty = true := by rw [str_toList]; rfl
    have HN : Hid (cuEnd ([], d) = ([], d)) := rfl
    go_enter Try.func107, Try.ntmps107
    go_wp2_with fail
    exact bodyPost_end (results_none rfl _ _ _) rfl ⟨⟨_, rfl⟩, by rw [HN.out]; exact hc, hU⟩
  | cons x t =>
    have hre : (str (x :: t)).toList.isEmpty = false := by rw [str_toList]; rfl
    have HN : Hid (cuEnd (x :: t, d) = (x :: t, true)) := rfl
    go_enter Try.func107, Try.ntmps107
    go_wp2_with (refine wpList_bput (by rfl) _ _ 4 (by rfl) g 137 1 (by rfl) _ (.bool true) (by rfl) hc (by kernel_rfl) (by simp) (by rfl) (by rfl) ?_; intro w9 hc9 hU9; replace hc := hc9; replace hU := hU.trans hU9; clear hc9 hU9 c0; dsimp only [List.set] at hc)
    exact bodyPost_end (results_none rfl _ _ _) rfl ⟨⟨_, rfl⟩, by rw [HN.out]; exact hc, hU⟩

set_option maxRecDepth 100000 in
set_option maxHeartbeats 4000000 in
theorem cuFlag_any (c : Cu) (g : Nat) (w : World) (hc : CuAt w g c) :
    Calls Try.prog 108 #[.pointer (some ⟨g, 0, none⟩)] w fun e w' => e = .returned (.bool (cuFlag c).1) ∧ CuAt w' g (cuFlag c).2 ∧ Upd g w w' := by
  obtain ⟨s, d⟩ := c
  have hU : Upd g w w := Upd.refl g w
  have c0 := hc.cell 0
  dsimp only [Cu.cells, List.getElem?_cons_zero] at c0
  cases s with
  | nil =>
    have hz : (str []).size = 0 := rfl
    have HN : Hid (cuFlag ([], d) = (false, [], true)) := rfl
    go_enter Try.func108, Try.ntmps108
    go_wp2_with (refine wpList_bput (by rfl) _ _ 4 (by rfl) g 137 1 (by rfl) _ (.bool true) (by rfl) hc (by kernel_rfl) (by simp) (by rfl) (by rfl) ?_; intro w9 hc9 hU9; replace hc := hc9; replace hU := hU.trans hU9; clear hc9 hU9 c0; dsimp only [List.set] at hc)
    go_ret
    rw [HN.out]
    exact ⟨rfl, hc, hU⟩
  | cons x t =>
    have hr0 : 0 < (str (x :: t)).size := by rw [str_size]; simp
    have hrx : (str (x :: t)).extract 1 (str (x :: t)).size = str t := by rw [str_extract, str_size]; simp
    have hrl2 : (1 : Int) ≤ ((str (x :: t)).size : Int) := by omega
    by_cases hx : 1 < x.toNat
    · have hk : 1 < ((str (x :: t))[0]'hr0).toNat := by have e : ((str (x :: t))[0]'hr0).toNat = x.toNat := rfl; omega
      have HN : Hid (cuFlag (x :: t, d) = (false, x :: t, true)) := by show _ = _; simp only [cuFlag, if_pos hx]
      go_enter Try.func108, Try.ntmps108
      go_wp2_with (refine wpList_bput (by rfl) _ _ 4 (by rfl) g 137 1 (by rfl) _ (.bool true) (by rfl) hc (by kernel_rfl) (by simp) (by rfl) (by rfl) ?_; intro w9 hc9 hU9; replace hc := hc9; replace hU := hU.trans hU9; clear hc9 hU9 c0; dsimp only [List.set] at hc)
      go_ret
      rw [HN.out]
      exact ⟨rfl, hc, hU⟩
    · by_cases h0 : x = 0
      · subst h0
        have hk : ((str (0 :: t))[0]'hr0).toNat = 0 := rfl
        have HN : Hid (cuFlag (0 :: t, d) = (false, t, d)) := rfl
        go_enter Try.func108, Try.ntmps108
        go_wp2_with (refine wpList_bput (by rfl) _ _ 9 (by rfl) g 137 0 (by rfl) _ (.string _) (by rfl) hc (by kernel_rfl) (by simp) (by rfl) (by rfl) ?_; intro w9 hc9 hU9; replace hc := hc9; replace hU := hU.trans hU9; clear hc9 hU9 c0; dsimp only [List.set] at hc)
        go_ret
        rw [HN.out]
        exact ⟨rfl, hc, hU⟩
      · have hc1 : x = 1 := by have : x.toNat ≠ 0 := fun h => h0 (UInt8.toNat_inj.1 h); exact UInt8.toNat_inj.1 (by show x.toNat = 1; omega)
        subst hc1
        have hk : ((str (1 :: t))[0]'hr0).toNat = 1 := rfl
        have HN : Hid (cuFlag (1 :: t, d) = (true, t, d)) := rfl
        go_enter Try.func108, Try.ntmps108
        go_wp2_with (refine wpList_bput (by rfl) _ _ 9 (by rfl) g 137 0 (by rfl) _ (.string _) (by rfl) hc (by kernel_rfl) (by simp) (by rfl) (by rfl) ?_; intro w9 hc9 hU9; replace hc := hc9; replace hU := hU.trans hU9; clear hc9 hU9 c0; dsimp only [List.set] at hc)
        go_ret
        rw [HN.out]
        exact ⟨rfl, hc, hU⟩
end Go.Proofs.Ytdjpkgaicmklmab

/- The program's takeHead, takeClock, takeCard, takeEdit, foundIn, walked. -/
namespace Go.Proofs.Ytdjpkgaicmklmab
open Go.RowKit

/-- The worlds part in block g alone, and in blocks from B on. -/
structure But (g B : Nat) (w w' : World) : Prop where
  os : w'.os = w.os
  tape : w'.tape = w.tape
  output : w'.output = w.output
  size : w.heap.size ≤ w'.heap.size
  block : ∀ k, k < B → k ≠ g → w'.heap[k]? = w.heap[k]?
theorem But.of_below {g B : Nat} {w w' : World} (h : Below B w w') : But g B w w' := ⟨h.os, h.tape, h.output, h.size, fun k hk _ => h.block k hk⟩
theorem But.upd {g B g' : Nat} {w w1 w2 : World} (h : But g B w w1) (hu : Upd g' w1 w2) (hg : g' = g ∨ B ≤ g') : But g B w w2 :=
  ⟨hu.os.trans h.os, hu.tape.trans h.tape, hu.output.trans h.output, by rw [hu.size]; exact h.size, fun k hk hn => (hu.block k (by omega)).trans (h.block k hk hn)⟩
theorem Bx.but {w w' : World} {g B k e : Nat} {cs : List Value} (b : Bx w k e cs) (h : But g B w w') (hk : k < B) (hn : k ≠ g) : Bx w' k e cs := ⟨by rw [h.block k hk hn]; exact b.h⟩
theorem But.below {g B B' : Nat} {w0 w w' : World} (h : But g B w w') (hb : Below B' w0 w) (h1 : B' ≤ B) (h2 : B' ≤ g) : Below B' w0 w' :=
  ⟨h.os.trans hb.os, h.tape.trans hb.tape, h.output.trans hb.output, Nat.le_trans hb.size h.size, fun k hk => (h.block k (by omega) (by omega)).trans (hb.block k hk)⟩

theorem cuNum_le (c : Cu) : (cuNum c).2.1.length ≤ c.1.length := by
  unfold cuNum; split <;> simp
theorem cuFour_le (c : Cu) : (cuFour c).2.1.length ≤ c.1.length := by
  unfold cuFour; split <;> simp

def tkHead (c : Cu) : Fd × Cu :=
  let a := cuNum c
  let b := if a.1 = 0 then (0, a.2) else cuFour a.2
  (fdHead a.1 b.1, cuEnd b.2)
def tkClock (c : Cu) : Fd × Cu := (fdClock ⟨(cuNum c).1, (cuNum (cuNum c).2).1⟩, cuEnd (cuNum (cuNum c).2).2)
def tkCard (c : Cu) : Fd × Cu :=
  let a := cuNum c
  let b := cuNum a.2
  let d := cuNum b.2
  let f := cuFlag d.2
  (fdCard ⟨a.1, b.1, d.1, f.1, str f.2.1⟩, f.2)
def tkEdit (c : Cu) : Fd × Cu := (fdEdit ⟨(cuNum c).1, str (cuNum c).2.1⟩, (cuNum c).2)

set_option maxRecDepth 100000 in
set_option maxHeartbeats 4000000 in
theorem tkEdit_any (c : Cu) (g : Nat) (w : World) (hc : CuAt w g c) (hs : c.1.length ≤ 9223372036854775807) :
    Calls Try.prog 104 #[.pointer (some ⟨g, 0, none⟩)] w fun e w' => e = .returned (fdV (tkEdit c).1) ∧ CuAt w' g (tkEdit c).2 ∧ But g w.heap.size w w' := by
  have hgl := hc.lt
  obtain ⟨hR, hW, hB⟩ := one_box w 117 fd0.cells.toArray
  replace hc := hc.alloc (.cells fd0.cells.toArray 117)
  have hT : But g w.heap.size w (w.alloc (.cells fd0.cells.toArray 117)) := But.of_below hB
  have l1 := cuNum_le c
  go_enter Try.func104, Try.ntmps104
  go_wp2_with fail
  refine (cuNum_any c g _ hc (by omega)).mono ?_
  rintro e w9 ⟨rfl, hc9, hU9⟩
  replace hR := hR.upd hU9 (by omega)
  replace hT := hT.upd hU9 (Or.inl rfl)
  replace hc := hc9
  clear hc9 hU9
  have c0 := hc.cell 0
  dsimp only [Cu.cells, List.getElem?_cons_zero] at c0
  go_wp2_with (refine wpList_bstore (by rfl) _ _ _ (by rfl) w.heap.size 117 (by rfl) _ _ (by rfl) hR 9 (by rfl) (by kernel_rfl) (by rfl) (by intro x hx; simp at hx; rcases hx with rfl | rfl | rfl | rfl | rfl | rfl | rfl | rfl | rfl <;> rfl) ?_; intro w9 hR9 hU9; replace hR := hR9; replace hc := hc.upd hU9 (by omega); replace hT := hT.upd hU9 (Or.inr (Nat.le_refl _)); clear hR9 hU9)
  exact bodyPost_ret (v := fdV (tkEdit c |>.1)) (results_box1 (by rfl) _ _ w.heap.size 117 _ _ (by rfl) hR Try.underlying117 (by rfl) 9 (by rfl) (by kernel_rfl)) rfl ⟨rfl, hc, hT⟩

set_option maxRecDepth 100000 in
set_option maxHeartbeats 4000000 in
theorem tkClock_any (c : Cu) (g : Nat) (w : World) (hc : CuAt w g c) (hs : c.1.length ≤ 9223372036854775807) :
    Calls Try.prog 102 #[.pointer (some ⟨g, 0, none⟩)] w fun e w' => e = .returned (fdV (tkClock c).1) ∧ CuAt w' g (tkClock c).2 ∧ But g w.heap.size w w' := by
  have hgl := hc.lt
  obtain ⟨hR, hW, hB⟩ := one_box w 117 fd0.cells.toArray
  replace hc := hc.alloc (.cells fd0.cells.toArray 117)
  have hT : But g w.heap.size w (w.alloc (.cells fd0.cells.toArray 117)) := But.of_below hB
  have l1 := cuNum_le c
  have l2 := cuNum_le (cuNum c).2
  go_enter Try.func102, Try.ntmps102
  go_wp2_with fail
  refine (cuNum_any c g _ hc (by omega)).mono ?_
  rintro e w9 ⟨rfl, hc9, hU9⟩
  replace hR := hR.upd hU9 (by omega)
  replace hT := hT.upd hU9 (Or.inl rfl)
  replace hc := hc9
  clear hc9 hU9
  go_wp2_with fail
  refine (cuNum_any (cuNum c).2 g _ hc (by omega)).mono ?_
  rintro e w9 ⟨rfl, hc9, hU9⟩
  replace hR := hR.upd hU9 (by omega)
  replace hT := hT.upd hU9 (Or.inl rfl)
  replace hc := hc9
  clear hc9 hU9
  go_wp2_with fail
  refine (cuEnd_any (cuNum (cuNum c).2).2 g _ hc ).mono ?_
  rintro e w9 ⟨⟨v, rfl⟩, hc9, hU9⟩
  replace hR := hR.upd hU9 (by omega)
  replace hT := hT.upd hU9 (Or.inl rfl)
  replace hc := hc9
  clear hc9 hU9
  go_wp2_with (refine wpList_bstore (by rfl) _ _ _ (by rfl) w.heap.size 117 (by rfl) _ _ (by rfl) hR 9 (by rfl) (by kernel_rfl) (by rfl) (by intro x hx; simp at hx; rcases hx with rfl | rfl | rfl | rfl | rfl | rfl | rfl | rfl | rfl <;> rfl) ?_; intro w9 hR9 hU9; replace hR := hR9; replace hc := hc.upd hU9 (by omega); replace hT := hT.upd hU9 (Or.inr (Nat.le_refl _)); clear hR9 hU9)
  exact bodyPost_ret (v := fdV (tkClock c |>.1)) (results_box1 (by rfl) _ _ w.heap.size 117 _ _ (by rfl) hR Try.underlying117 (by rfl) 9 (by rfl) (by kernel_rfl)) rfl ⟨rfl, hc, hT⟩

set_option maxRecDepth 100000 in
set_option maxHeartbeats 4000000 in
theorem tkCard_any (c : Cu) (g : Nat) (w : World) (hc : CuAt w g c) (hs : c.1.length ≤ 9223372036854775807) :
    Calls Try.prog 103 #[.pointer (some ⟨g, 0, none⟩)] w fun e w' => e = .returned (fdV (tkCard c).1) ∧ CuAt w' g (tkCard c).2 ∧ But g w.heap.size w w' := by
  have hgl := hc.lt
  obtain ⟨hR, hW, hB⟩ := one_box w 117 fd0.cells.toArray
  replace hc := hc.alloc (.cells fd0.cells.toArray 117)
  have hT : But g w.heap.size w (w.alloc (.cells fd0.cells.toArray 117)) := But.of_below hB
  have l1 := cuNum_le c
  have l2 := cuNum_le (cuNum c).2
  have l3 := cuNum_le (cuNum (cuNum c).2).2
  go_enter Try.func103, Try.ntmps103
  go_wp2_with fail
  refine (cuNum_any c g _ hc (by omega)).mono ?_
  rintro e w9 ⟨rfl, hc9, hU9⟩
  replace hR := hR.upd hU9 (by omega)
  replace hT := hT.upd hU9 (Or.inl rfl)
  replace hc := hc9
  clear hc9 hU9
  go_wp2_with fail
  refine (cuNum_any (cuNum c).2 g _ hc (by omega)).mono ?_
  rintro e w9 ⟨rfl, hc9, hU9⟩
  replace hR := hR.upd hU9 (by omega)
  replace hT := hT.upd hU9 (Or.inl rfl)
  replace hc := hc9
  clear hc9 hU9
  go_wp2_with fail
  refine (cuNum_any (cuNum (cuNum c).2).2 g _ hc (by omega)).mono ?_
  rintro e w9 ⟨rfl, hc9, hU9⟩
  replace hR := hR.upd hU9 (by omega)
  replace hT := hT.upd hU9 (Or.inl rfl)
  replace hc := hc9
  clear hc9 hU9
  go_wp2_with fail
  refine (cuFlag_any (cuNum (cuNum (cuNum c).2).2).2 g _ hc ).mono ?_
  rintro e w9 ⟨rfl, hc9, hU9⟩
  replace hR := hR.upd hU9 (by omega)
  replace hT := hT.upd hU9 (Or.inl rfl)
  replace hc := hc9
  clear hc9 hU9
  have c0 := hc.cell 0
  dsimp only [Cu.cells, List.getElem?_cons_zero] at c0
  go_wp2_with (refine wpList_bstore (by rfl) _ _ _ (by rfl) w.heap.size 117 (by rfl) _ _ (by rfl) hR 9 (by rfl) (by kernel_rfl) (by rfl) (by intro x hx; simp at hx; rcases hx with rfl | rfl | rfl | rfl | rfl | rfl | rfl | rfl | rfl <;> rfl) ?_; intro w9 hR9 hU9; replace hR := hR9; replace hc := hc.upd hU9 (by omega); replace hT := hT.upd hU9 (Or.inr (Nat.le_refl _)); clear hR9 hU9)
  exact bodyPost_ret (v := fdV (tkCard c |>.1)) (results_box1 (by rfl) _ _ w.heap.size 117 _ _ (by rfl) hR Try.underlying117 (by rfl) 9 (by rfl) (by kernel_rfl)) rfl ⟨rfl, hc, hT⟩

set_option maxRecDepth 100000 in
set_option maxHeartbeats 4000000 in
theorem tkHead_any (c : Cu) (g : Nat) (w : World) (hc : CuAt w g c) (hs : c.1.length ≤ 9223372036854775807) :
    Calls Try.prog 101 #[.pointer (some ⟨g, 0, none⟩)] w fun e w' => e = .returned (fdV (tkHead c).1) ∧ CuAt w' g (tkHead c).2 ∧ But g w.heap.size w w' := by
  have hgl := hc.lt
  obtain ⟨hR, hW, hB⟩ := one_box w 117 fd0.cells.toArray
  replace hc := hc.alloc (.cells fd0.cells.toArray 117)
  have hT : But g w.heap.size w (w.alloc (.cells fd0.cells.toArray 117)) := But.of_below hB
  have l1 := cuNum_le c
  have l2 := cuFour_le (cuNum c).2
  go_enter Try.func101, Try.ntmps101
  go_wp2_with fail
  refine (cuNum_any c g _ hc (by omega)).mono ?_
  rintro e w9 ⟨rfl, hc9, hU9⟩
  replace hR := hR.upd hU9 (by omega)
  replace hT := hT.upd hU9 (Or.inl rfl)
  replace hc := hc9
  clear hc9 hU9
  by_cases hq : (cuNum c).1 = 0
  · have hqb : ((cuNum c).1 != 0) = false := by rw [hq]; rfl
    have HK : Hid (tkHead c = (fdHead (cuNum c).1 0, cuEnd (cuNum c).2)) := by show _ = _; unfold tkHead; simp only [if_pos hq]
    clear hq
    go_wp2_with fail
    refine (cuEnd_any (cuNum c).2 g _ hc ).mono ?_
    rintro e w9 ⟨⟨v, rfl⟩, hc9, hU9⟩
    replace hR := hR.upd hU9 (by omega)
    replace hT := hT.upd hU9 (Or.inl rfl)
    replace hc := hc9
    clear hc9 hU9
    go_wp2_with (refine wpList_bstore (by rfl) _ _ _ (by rfl) w.heap.size 117 (by rfl) _ _ (by rfl) hR 9 (by rfl) (by kernel_rfl) (by rfl) (by intro x hx; simp at hx; rcases hx with rfl | rfl | rfl | rfl | rfl | rfl | rfl | rfl | rfl <;> rfl) ?_; intro w9 hR9 hU9; replace hR := hR9; replace hc := hc.upd hU9 (by omega); replace hT := hT.upd hU9 (Or.inr (Nat.le_refl _)); clear hR9 hU9)
    rw [HK.out]
    exact bodyPost_ret (v := fdV (fdHead (cuNum c).1 0)) (results_box1 (by rfl) _ _ w.heap.size 117 _ _ (by rfl) hR Try.underlying117 (by rfl) 9 (by rfl) (by kernel_rfl)) rfl ⟨rfl, hc, hT⟩
  · have hqb : ((cuNum c).1 != 0) = true := by rw [bne_iff_ne]; exact hq
    have HK : Hid (tkHead c = (fdHead (cuNum c).1 (cuFour (cuNum c).2).1, cuEnd (cuFour (cuNum c).2).2)) := by show _ = _; unfold tkHead; simp only [if_neg hq]
    clear hq
    go_wp2_with fail
    refine (cuFour_any (cuNum c).2 g _ hc (by omega)).mono ?_
    rintro e w9 ⟨rfl, hc9, hU9⟩
    replace hR := hR.upd hU9 (by omega)
    replace hT := hT.upd hU9 (Or.inl rfl)
    replace hc := hc9
    clear hc9 hU9
    go_wp2_with fail
    refine (cuEnd_any (cuFour (cuNum c).2).2 g _ hc ).mono ?_
    rintro e w9 ⟨⟨v, rfl⟩, hc9, hU9⟩
    replace hR := hR.upd hU9 (by omega)
    replace hT := hT.upd hU9 (Or.inl rfl)
    replace hc := hc9
    clear hc9 hU9
    go_wp2_with (refine wpList_bstore (by rfl) _ _ _ (by rfl) w.heap.size 117 (by rfl) _ _ (by rfl) hR 9 (by rfl) (by kernel_rfl) (by rfl) (by intro x hx; simp at hx; rcases hx with rfl | rfl | rfl | rfl | rfl | rfl | rfl | rfl | rfl <;> rfl) ?_; intro w9 hR9 hU9; replace hR := hR9; replace hc := hc.upd hU9 (by omega); replace hT := hT.upd hU9 (Or.inr (Nat.le_refl _)); clear hR9 hU9)
    rw [HK.out]
    exact bodyPost_ret (v := fdV (fdHead (cuNum c).1 (cuFour (cuNum c).2).1)) (results_box1 (by rfl) _ _ w.heap.size 117 _ _ (by rfl) hR Try.underlying117 (by rfl) 9 (by rfl) (by kernel_rfl)) rfl ⟨rfl, hc, hT⟩
end Go.Proofs.Ytdjpkgaicmklmab

