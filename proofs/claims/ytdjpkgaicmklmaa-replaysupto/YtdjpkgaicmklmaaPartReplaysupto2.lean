/- Texts of the proof, one behind the other; what each holds is said at its head. -/
import Derived.Test.YtdjpkgaicmklmaaPartReplaysupto0
import Derived.Test.YtdjpkgaicmklmaaPartReplaysupto1
import Derived.Deep.RegionHeld3
import Derived.OwnWalk
/- A link's records in their order: the program's recordsOf, walked. -/
namespace Go.Proofs.Ytdjpkgaicmklmaa
open Go.RowKit

/-- A record, as plain data. -/
structure Fd where
  at_ : Int
  kind : Int
  seq : Int
  base : Int
  id : Int
  site : Int
  count : Int
  gone : Bool
  text : ByteArray

abbrev Fd.cells (f : Fd) : List Value := [.int .i64 f.at_, .int .i64 f.kind, .int .i64 f.seq, .int .i64 f.base, .int .i64 f.id, .int .i64 f.site, .int .i64 f.count, .bool f.gone, .string f.text]
def fdHead (seq base : Int) : Fd := ⟨0, 4, seq, base, 0, 0, 0, false, ⟨#[]⟩⟩
def fdClock (c : Ck) : Fd := ⟨0, 1, 0, 0, 0, c.site, c.count, false, ⟨#[]⟩⟩
def fdCard (c : Cd) : Fd := ⟨0, 2, 0, 0, c.id, c.site, c.count, c.gone, c.text⟩
def fdEdit (c : Ed) : Fd := ⟨0, 3, 0, 0, c.id, 0, 0, false, c.text⟩
/-- A record's bytes. -/
def recF (f : Fd) : List UInt8 :=
  if f.kind = 4 then recHead f.seq f.base else if f.kind = 1 then recClock ⟨f.site, f.count⟩ else if f.kind = 2 then recCard ⟨f.id, f.site, f.count, f.gone, f.text⟩ else recEdit ⟨f.id, f.text⟩
theorem recF_head (s b : Int) : recF (fdHead s b) = recHead s b := rfl
theorem recF_clock (c : Ck) : recF (fdClock c) = recClock c := rfl
theorem recF_card (c : Cd) : recF (fdCard c) = recCard c := rfl
theorem recF_edit (c : Ed) : recF (fdEdit c) = recEdit c := rfl

/-- The first k clocks' records, .. -/
def recs1 (s b : Int) (R : Rep) (k : Nat) : List Fd := fdHead s b :: (List.range k).map (fun i => fdClock (R.c i))
def recs2 (s b : Int) (R : Rep) (k : Nat) : List Fd := recs1 s b R R.n1 ++ (List.range k).map (fun i => fdCard (R.d i))
def recs3 (s b : Int) (R : Rep) (k : Nat) : List Fd := recs2 s b R R.n2 ++ (List.range k).map (fun i => fdEdit (R.e i))
/-- All records of a link. -/
def recsOf (s b : Int) (R : Rep) : List Fd := recs3 s b R R.n3

theorem recs1_succ (s b : Int) (R : Rep) (k : Nat) : recs1 s b R (k + 1) = recs1 s b R k ++ [fdClock (R.c k)] := by simp [recs1, List.range_succ]
theorem recs2_zero (s b : Int) (R : Rep) : recs2 s b R 0 = recs1 s b R R.n1 := by simp [recs2]
theorem recs2_succ (s b : Int) (R : Rep) (k : Nat) : recs2 s b R (k + 1) = recs2 s b R k ++ [fdCard (R.d k)] := by simp [recs2, List.range_succ]
theorem recs3_zero (s b : Int) (R : Rep) : recs3 s b R 0 = recs2 s b R R.n2 := by simp [recs3]
theorem recs3_succ (s b : Int) (R : Rep) (k : Nat) : recs3 s b R (k + 1) = recs3 s b R k ++ [fdEdit (R.e k)] := by simp [recs3, List.range_succ]
theorem recsOf_length (s b : Int) (R : Rep) : (recsOf s b R).length = 1 + R.n1 + R.n2 + R.n3 := by simp [recsOf, recs3, recs2, recs1]; omega

/-- Few records, and numbers and texts that may be written. -/
structure Fit (R : Rep) : Prop where
  n1 : R.n1 ≤ 1000000
  n2 : R.n2 ≤ 1000000
  n3 : R.n3 ≤ 1000000
  c1 : ∀ i, i < R.n1 → Num (R.c i).site ∧ Num (R.c i).count
  d1 : ∀ i, i < R.n2 → Num (R.d i).id ∧ Num (R.d i).site ∧ Num (R.d i).count ∧ (R.d i).text.size ≤ 60
  e1 : ∀ i, i < R.n3 → Num (R.e i).id ∧ (R.e i).text.size ≤ 60

abbrev lnkA (s b : Int) (R : Rep) (a1 a2 a3 : Option Addr) (k1 k2 k3 : Nat) : Array Value := #[.int .i64 s, .int .i64 b, .slice a1 R.n1 k1, .slice a2 R.n2 k2, .slice a3 R.n3 k3]
abbrev BoxL (w : World) (s b : Int) (R : Rep) (a1 a2 a3 : Option Addr) (k1 k2 k3 : Nat) (wr : World) : Prop := Below (w.heap.size + 1) (w.alloc (.cells (lnkA s b R a1 a2 a3 k1 k2 k3) 75)) wr
theorem BoxL.cells {w : World} {s b : Int} {R : Rep} {a1 a2 a3 : Option Addr} {k1 k2 k3 : Nat} {wr : World} (hb : BoxL w s b R a1 a2 a3 k1 k2 k3 wr) :
    wr.cell? ⟨w.heap.size, 0, none⟩ = some (.int .i64 s) ∧ wr.cell? ⟨w.heap.size, 1, none⟩ = some (.int .i64 b) ∧ wr.cell? ⟨w.heap.size, 2, none⟩ = some (.slice a1 R.n1 k1) ∧ wr.cell? ⟨w.heap.size, 3, none⟩ = some (.slice a2 R.n2 k2) ∧ wr.cell? ⟨w.heap.size, 4, none⟩ = some (.slice a3 R.n3 k3) :=
  ⟨boxN hb 0, boxN hb 1, boxN hb 2, boxN hb 3, boxN hb 4⟩

set_option maxRecDepth 100000 in
set_option maxHeartbeats 4000000 in
theorem recordsOf_any (s b : Int) (R : Rep) (a1 a2 a3 : Option Addr) (k1 k2 k3 : Nat) (w : World) (hR : Has w R a1 a2 a3) (hF : Fit R) (hs : Num s) (hb1 : 0 ≤ b) (hb2 : b ≤ 4294967295) :
    Calls Try.prog 81 #[.agg (lnkA s b R a1 a2 a3 k1 k2 k3)] w fun e w' => ∃ ad cap N, e = .returned (.slice ad N cap) ∧ N = (recsOf s b R).length ∧ Vec w' w.heap.size 9 1 ad N cap ((recsOf s b R).map fun f => Value.string (str (recF f))) ∧ Below w.heap.size w w' := by
  have m1 := hF.n1; have m2 := hF.n2; have m3 := hF.n3
  have h0 : BoxL w s b R a1 a2 a3 k1 k2 k3 (w.alloc (.cells (lnkA s b R a1 a2 a3 k1 k2 k3) 75)) := Below.refl _ _
  go_enter Try.func81, Try.ntmps81
  go_wp2_with fail
  refine (head_any s b _ hs hb1 hb2).mono ?_
  rintro e w1 ⟨rfl, hh⟩
  have h1 : BoxL w s b R a1 a2 a3 k1 k2 k3 w1 := box_step h0 hh
  clear hh h0
  have z1 : w.heap.size + 1 ≤ w1.heap.size := by have := h1.size; simpa using this
  go_wp2_with fail
  go_loopw [4, 5, 6] (fun v u _ wr => ∃ (k : Nat) (ad : Option Addr) (cap N : Nat), k ≤ R.n1 ∧ u = .int .i64 k ∧ v = .slice ad N cap ∧ N = 1 + k ∧ Vec wr (w.heap.size + 1) 9 1 ad N cap ((recs1 s b R k).map fun f => Value.string (str (recF f))) ∧ BoxL w s b R a1 a2 a3 k1 k2 k3 wr) (fun _ u _ _ => R.n1 - (intOf u).toNat)
  case atStart => exact ⟨0, _, _, 1, Nat.zero_le _, rfl, rfl, rfl, Vec.lit w1 _ _ _ 1 [.string (str (recHead s b))] z1 (by omega) rfl, h1.alloc z1 _⟩
  case round =>
    clear h1 z1
    obtain ⟨k, ad, cap, N, hk, rfl, rfl, hN, hv, hb⟩ := hrel
    have HN : Hid (N = 1 + k) := hN
    have hNb : N ≤ 1000001 := by omega
    clear hN
    obtain ⟨x0, x1, x2, x3, x4⟩ := hb.cells
    by_cases hlt : k < R.n1
    · obtain ⟨bb, o, hbl, hix, cs, cc⟩ := (hR.below (box_old hb)).l1.clock k1 hlt
      obtain ⟨f1, f2⟩ := hF.c1 k hlt
      go_wp2_with fail
      refine (clock_any (R.c k) _ f1 f2).mono ?_
      rintro e w1 ⟨rfl, hh⟩
      have h1 : BoxL w s b R a1 a2 a3 k1 k2 k3 w1 := box_step hb hh
      have hv1 := hv.keep hh
      clear hh hv hb x0 x1 x2 x3 x4
      have z1 : w.heap.size + 1 ≤ w1.heap.size := by have := h1.size; simpa using this
      go_wp2_with (at_builtin; refine wpList_push (by rfl) _ _ 46 (by rfl) (w.heap.size + 1) 9 1 16 (.string ⟨#[]⟩) Try.underlying46 (by kernel_rfl) rfl (by decide) ad N cap _ (by rfl) (hv1.keep ((Below.refl _ _).alloc (Nat.le_refl _) _)) _ _ [.string (str (recClock (R.c k)))] (by rfl) rfl ?_ ?_ ?_ ?_ ?_ ?_; exact new_cells _ _ _; (simp [Value.oneCell']); (omega); (omega); (simp; omega); intro ad' cap' w' hv' hb' hs')
      have h2 : BoxL w s b R a1 a2 a3 k1 k2 k3 w' := (h1.alloc z1 _).trans hb'
      have hv2 : Vec w' (w.heap.size + 1) 9 1 ad' (N + 1) cap' ((recs1 s b R (k + 1)).map fun f => Value.string (str (recF f))) := by
        rw [recs1_succ, List.map_append]; exact hv'
      go_roundw
      case rel => exact ⟨k + 1, ad', cap', N + 1, by omega, by go_num, rfl, by have := HN.out; omega, hv2, h2⟩
      case measure => simp [intOf]; omega
    · have e1 : k = R.n1 := by omega
      have hv0 : Vec wr (w.heap.size + 1) 9 1 ad N cap ((recs2 s b R 0).map fun f => Value.string (str (recF f))) := by
        rw [recs2_zero, ← e1]; exact hv
      have N1 : Hid (N = 1 + R.n1) := by have := HN.out; show _ = _; omega
      clear e1 hv HN hk
      go_wp2_with fail
      go_loopw [4, 7, 8] (fun v u _ wr => ∃ (k : Nat) (ad : Option Addr) (cap N : Nat), k ≤ R.n2 ∧ u = .int .i64 k ∧ v = .slice ad N cap ∧ N = 1 + R.n1 + k ∧ Vec wr (w.heap.size + 1) 9 1 ad N cap ((recs2 s b R k).map fun f => Value.string (str (recF f))) ∧ BoxL w s b R a1 a2 a3 k1 k2 k3 wr) (fun _ u _ _ => R.n2 - (intOf u).toNat)
      case atStart => exact ⟨0, _, _, N, Nat.zero_le _, rfl, rfl, N1.out, hv0, hb⟩
      case round =>
        clear hv0 hb x0 x1 x2 x3 x4 N1 hNb hlt
        obtain ⟨k, ad, cap, N, hk, rfl, rfl, hN, hv, hb⟩ := hrel
        have HN : Hid (N = 1 + R.n1 + k) := hN
        have hNb : N ≤ 2000001 := by omega
        clear hN
        obtain ⟨x0, x1, x2, x3, x4⟩ := hb.cells
        by_cases hlt : k < R.n2
        · obtain ⟨bb, o, hbl, hix, c1, c2, c3, c4, c5⟩ := (hR.below (box_old hb)).l2.card k2 hlt
          obtain ⟨f1, f2, f3, f4⟩ := hF.d1 k hlt
          go_wp2_with fail
          refine (card_any (R.d k) _ f1 f2 f3 (by omega)).mono ?_
          rintro e w1 ⟨rfl, hh⟩
          have h1 : BoxL w s b R a1 a2 a3 k1 k2 k3 w1 := box_step hb hh
          have hv1 := hv.keep hh
          clear hh hv hb x0 x1 x2 x3 x4
          have z1 : w.heap.size + 1 ≤ w1.heap.size := by have := h1.size; simpa using this
          go_wp2_with (at_builtin; refine wpList_push (by rfl) _ _ 46 (by rfl) (w.heap.size + 1) 9 1 16 (.string ⟨#[]⟩) Try.underlying46 (by kernel_rfl) rfl (by decide) ad N cap _ (by rfl) (hv1.keep ((Below.refl _ _).alloc (Nat.le_refl _) _)) _ _ [.string (str (recCard (R.d k)))] (by rfl) rfl ?_ ?_ ?_ ?_ ?_ ?_; exact new_cells _ _ _; (simp [Value.oneCell']); (omega); (omega); (simp; omega); intro ad' cap' w' hv' hb' hs')
          have h2 : BoxL w s b R a1 a2 a3 k1 k2 k3 w' := (h1.alloc z1 _).trans hb'
          have hv2 : Vec w' (w.heap.size + 1) 9 1 ad' (N + 1) cap' ((recs2 s b R (k + 1)).map fun f => Value.string (str (recF f))) := by
            rw [recs2_succ, List.map_append]; exact hv'
          go_roundw
          case rel => exact ⟨k + 1, ad', cap', N + 1, by omega, by go_num, rfl, by have := HN.out; omega, hv2, h2⟩
          case measure => simp [intOf]; omega
        · have e1 : k = R.n2 := by omega
          have hv0 : Vec wr (w.heap.size + 1) 9 1 ad N cap ((recs3 s b R 0).map fun f => Value.string (str (recF f))) := by
            rw [recs3_zero, ← e1]; exact hv
          have N1 : Hid (N = 1 + R.n1 + R.n2) := by have := HN.out; show _ = _; omega
          clear e1 hv HN hk
          go_wp2_with fail
          go_loopw [4, 9, 10] (fun v u _ wr => ∃ (k : Nat) (ad : Option Addr) (cap N : Nat), k ≤ R.n3 ∧ u = .int .i64 k ∧ v = .slice ad N cap ∧ N = 1 + R.n1 + R.n2 + k ∧ Vec wr (w.heap.size + 1) 9 1 ad N cap ((recs3 s b R k).map fun f => Value.string (str (recF f))) ∧ BoxL w s b R a1 a2 a3 k1 k2 k3 wr) (fun _ u _ _ => R.n3 - (intOf u).toNat)
          case atStart => exact ⟨0, _, _, N, Nat.zero_le _, rfl, rfl, N1.out, hv0, hb⟩
          case round =>
            clear hv0 hb x0 x1 x2 x3 x4 N1 hNb hlt
            obtain ⟨k, ad, cap, N, hk, rfl, rfl, hN, hv, hb⟩ := hrel
            have HN : Hid (N = 1 + R.n1 + R.n2 + k) := hN
            have hNb : N ≤ 3000001 := by omega
            clear hN
            obtain ⟨x0, x1, x2, x3, x4⟩ := hb.cells
            by_cases hlt : k < R.n3
            · obtain ⟨bb, o, hbl, hix, c1, c2⟩ := (hR.below (box_old hb)).l3.edit k3 hlt
              obtain ⟨f1, f4⟩ := hF.e1 k hlt
              go_wp2_with fail
              refine (edit_any (R.e k) _ f1 (by omega)).mono ?_
              rintro e w1 ⟨rfl, hh⟩
              have h1 : BoxL w s b R a1 a2 a3 k1 k2 k3 w1 := box_step hb hh
              have hv1 := hv.keep hh
              clear hh hv hb x0 x1 x2 x3 x4
              have z1 : w.heap.size + 1 ≤ w1.heap.size := by have := h1.size; simpa using this
              go_wp2_with (at_builtin; refine wpList_push (by rfl) _ _ 46 (by rfl) (w.heap.size + 1) 9 1 16 (.string ⟨#[]⟩) Try.underlying46 (by kernel_rfl) rfl (by decide) ad N cap _ (by rfl) (hv1.keep ((Below.refl _ _).alloc (Nat.le_refl _) _)) _ _ [.string (str (recEdit (R.e k)))] (by rfl) rfl ?_ ?_ ?_ ?_ ?_ ?_; exact new_cells _ _ _; (simp [Value.oneCell']); (omega); (omega); (simp; omega); intro ad' cap' w' hv' hb' hs')
              have h2 : BoxL w s b R a1 a2 a3 k1 k2 k3 w' := (h1.alloc z1 _).trans hb'
              have hv2 : Vec w' (w.heap.size + 1) 9 1 ad' (N + 1) cap' ((recs3 s b R (k + 1)).map fun f => Value.string (str (recF f))) := by
                rw [recs3_succ, List.map_append]; exact hv'
              go_roundw
              case rel => exact ⟨k + 1, ad', cap', N + 1, by omega, by go_num, rfl, by have := HN.out; omega, hv2, h2⟩
              case measure => simp [intOf]; omega
            · have e1 : k = R.n3 := by omega
              have hv0 : Vec wr (w.heap.size + 1) 9 1 ad N cap ((recsOf s b R).map fun f => Value.string (str (recF f))) := by
                unfold recsOf; rw [← e1]; exact hv
              have N1 : Hid (N = (recsOf s b R).length) := by have := HN.out; show _ = _; rw [recsOf_length]; omega
              clear e1 hv HN hk
              go_wp2_with fail
              go_ret
              exact ⟨ad, cap, N, rfl, N1.out, hv0.mono (by omega), box_old hb⟩
end Go.Proofs.Ytdjpkgaicmklmaa

/- A link's records in their order: the reference's records, walked. -/
namespace Go.Proofs.Ytdjpkgaicmklmaa
open Go.RowKit

def fcells (l : List Fd) : List Value := (l.map Fd.cells).flatten
theorem fcells_append (a b : List Fd) : fcells (a ++ b) = fcells a ++ fcells b := by simp [fcells]
theorem fcells_one (f : Fd) : fcells [f] = f.cells := by simp [fcells]

theorem new_cells2 (w : World) (o : Obj) (cs : List Value) (t : TypeId) : ∀ j u, cs[j]? = some u → ((w.alloc o).alloc (.cells cs.toArray t)).cell? ((⟨w.heap.size + 1, 0, none⟩ : Addr).add j) = some u := by
  intro j u h
  have := new_cells (w.alloc o) cs t j u h
  rwa [World.size_alloc] at this

set_option maxRecDepth 100000 in
set_option maxHeartbeats 4000000 in
theorem records_any (s b : Int) (R : Rep) (a1 a2 a3 : Option Addr) (k1 k2 k3 : Nat) (w : World) (hR : Has w R a1 a2 a3) (hF : Fit R) :
    Calls Try.prog 85 #[.agg (lnkA s b R a1 a2 a3 k1 k2 k3)] w fun e w' => ∃ ad cap N, e = .returned (.slice ad N cap) ∧ N = (recsOf s b R).length ∧ Vec w' w.heap.size 64 9 ad N cap (fcells (recsOf s b R)) ∧ Below w.heap.size w w' := by
  have m1 := hF.n1; have m2 := hF.n2; have m3 := hF.n3
  have h0 : BoxL w s b R a1 a2 a3 k1 k2 k3 (w.alloc (.cells (lnkA s b R a1 a2 a3 k1 k2 k3) 75)) := Below.refl _ _
  have z0 : w.heap.size + 1 ≤ (w.alloc (.cells (lnkA s b R a1 a2 a3 k1 k2 k3) 75)).heap.size := by simp
  have hv0 : Vec ((w.alloc (.cells (lnkA s b R a1 a2 a3 k1 k2 k3) 75)).alloc (.cells (fdHead s b).cells.toArray 64)) (w.heap.size + 1) 64 9 (some ⟨w.heap.size + 1, 0, none⟩) 1 1 (fcells (recs1 s b R 0)) := by
    have := Vec.lit (w.alloc (.cells (lnkA s b R a1 a2 a3 k1 k2 k3) 75)) (w.heap.size + 1) 64 9 1 (fdHead s b).cells z0 (by omega) rfl
    rw [World.size_alloc] at this
    simpa [recs1, fcells] using this
  have h1 := h0.alloc z0 (.cells (fdHead s b).cells.toArray 64)
  have HV : Hid (Vec ((w.alloc (.cells (lnkA s b R a1 a2 a3 k1 k2 k3) 75)).alloc (.cells (fdHead s b).cells.toArray 64)) (w.heap.size + 1) 64 9 (some ⟨w.heap.size + 1, 0, none⟩) 1 1 (fcells (recs1 s b R 0))) := hv0
  have HB : Hid (BoxL w s b R a1 a2 a3 k1 k2 k3 ((w.alloc (.cells (lnkA s b R a1 a2 a3 k1 k2 k3) 75)).alloc (.cells (fdHead s b).cells.toArray 64))) := h1
  clear hv0 h0 h1 z0
  go_enter Try.func85, Try.ntmps85
  go_wp2_with fail
  go_loopw [3, 4, 5] (fun v u _ wr => ∃ (k : Nat) (ad : Option Addr) (cap N : Nat), k ≤ R.n1 ∧ u = .int .i64 k ∧ v = .slice ad N cap ∧ N = 1 + k ∧ Vec wr (w.heap.size + 1) 64 9 ad N cap (fcells (recs1 s b R k)) ∧ BoxL w s b R a1 a2 a3 k1 k2 k3 wr) (fun _ u _ _ => R.n1 - (intOf u).toNat)
  case atStart => exact ⟨0, _, _, 1, Nat.zero_le _, rfl, rfl, rfl, HV.out, HB.out⟩
  case round =>
    clear HV HB
    obtain ⟨k, ad, cap, N, hk, rfl, rfl, hN, hv, hb⟩ := hrel
    have HN : Hid (N = 1 + k) := hN
    have hNb : N ≤ 3000001 := by omega
    clear hN
    obtain ⟨x0, x1, x2, x3, x4⟩ := hb.cells
    have z1 : w.heap.size + 1 ≤ wr.heap.size := by have := hb.size; simpa using this
    by_cases hlt : k < R.n1
    · obtain ⟨bb, o, hbl, hix, cs, cc⟩ := (hR.below (box_old hb)).l1.clock k1 hlt
      have hvx : ∀ o1 o2, Vec ((wr.alloc o1).alloc o2) (w.heap.size + 1) 64 9 ad N cap (fcells (recs1 s b R k)) := fun o1 o2 => hv.keep (((Below.refl _ wr).alloc (Nat.le_refl _) _).alloc (by simp) _)
      have HX : Hid (∀ o1 o2, Vec ((wr.alloc o1).alloc o2) (w.heap.size + 1) 64 9 ad N cap (fcells (recs1 s b R k))) := hvx
      clear hvx
      go_wp2_with (at_builtin; refine wpList_push (by rfl) _ _ 57 (by rfl) (w.heap.size + 1) 64 9 80 (.agg #[.int .i64 0, .int .i64 0, .int .i64 0, .int .i64 0, .int .i64 0, .int .i64 0, .int .i64 0, .bool false, .string ⟨#[]⟩]) Try.underlying57 (by kernel_rfl) rfl (by decide) ad N cap _ (by rfl) (HX.out _ _) _ _ (fdClock (R.c k)).cells (by rfl) rfl ?_ ?_ ?_ ?_ ?_ ?_; exact new_cells2 _ _ _ _; (simp [Value.oneCell', fdClock]); (omega); (omega); (simp; omega); intro ad' cap' w' hv' hb' hs')
      have h2 : BoxL w s b R a1 a2 a3 k1 k2 k3 w' := ((hb.alloc z1 _).alloc (by simp; omega) _).trans hb'
      have hv2 : Vec w' (w.heap.size + 1) 64 9 ad' (N + 1) cap' (fcells (recs1 s b R (k + 1))) := by
        rw [recs1_succ, fcells_append, fcells_one]; exact hv'
      go_roundw
      case rel => exact ⟨k + 1, ad', cap', N + 1, by omega, by go_num, rfl, by have := HN.out; omega, hv2, h2⟩
      case measure => simp [intOf]; omega
    · have e1 : k = R.n1 := by omega
      have hv0 : Vec wr (w.heap.size + 1) 64 9 ad N cap (fcells (recs2 s b R 0)) := by
        rw [recs2_zero, ← e1]; exact hv
      have N1 : Hid (N = 1 + R.n1) := by have := HN.out; show _ = _; omega
      clear e1 hv HN hk z1
      go_wp2_with fail
      go_loopw [3, 6, 7] (fun v u _ wr => ∃ (k : Nat) (ad : Option Addr) (cap N : Nat), k ≤ R.n2 ∧ u = .int .i64 k ∧ v = .slice ad N cap ∧ N = 1 + R.n1 + k ∧ Vec wr (w.heap.size + 1) 64 9 ad N cap (fcells (recs2 s b R k)) ∧ BoxL w s b R a1 a2 a3 k1 k2 k3 wr) (fun _ u _ _ => R.n2 - (intOf u).toNat)
      case atStart => exact ⟨0, _, _, N, Nat.zero_le _, rfl, rfl, N1.out, hv0, hb⟩
      case round =>
        clear hv0 hb x0 x1 x2 x3 x4 N1 hNb hlt
        obtain ⟨k, ad, cap, N, hk, rfl, rfl, hN, hv, hb⟩ := hrel
        have HN : Hid (N = 1 + R.n1 + k) := hN
        have hNb : N ≤ 3000001 := by omega
        clear hN
        obtain ⟨x0, x1, x2, x3, x4⟩ := hb.cells
        have z1 : w.heap.size + 1 ≤ wr.heap.size := by have := hb.size; simpa using this
        by_cases hlt : k < R.n2
        · obtain ⟨bb, o, hbl, hix, c1, c2, c3, c4, c5⟩ := (hR.below (box_old hb)).l2.card k2 hlt
          have hvx : ∀ o1 o2, Vec ((wr.alloc o1).alloc o2) (w.heap.size + 1) 64 9 ad N cap (fcells (recs2 s b R k)) := fun o1 o2 => hv.keep (((Below.refl _ wr).alloc (Nat.le_refl _) _).alloc (by simp) _)
          have HX : Hid (∀ o1 o2, Vec ((wr.alloc o1).alloc o2) (w.heap.size + 1) 64 9 ad N cap (fcells (recs2 s b R k))) := hvx
          clear hvx
          go_wp2_with (at_builtin; refine wpList_push (by rfl) _ _ 57 (by rfl) (w.heap.size + 1) 64 9 80 (.agg #[.int .i64 0, .int .i64 0, .int .i64 0, .int .i64 0, .int .i64 0, .int .i64 0, .int .i64 0, .bool false, .string ⟨#[]⟩]) Try.underlying57 (by kernel_rfl) rfl (by decide) ad N cap _ (by rfl) (HX.out _ _) _ _ (fdCard (R.d k)).cells (by rfl) rfl ?_ ?_ ?_ ?_ ?_ ?_; exact new_cells2 _ _ _ _; (simp [Value.oneCell', fdCard]); (omega); (omega); (simp; omega); intro ad' cap' w' hv' hb' hs')
          have h2 : BoxL w s b R a1 a2 a3 k1 k2 k3 w' := ((hb.alloc z1 _).alloc (by simp; omega) _).trans hb'
          have hv2 : Vec w' (w.heap.size + 1) 64 9 ad' (N + 1) cap' (fcells (recs2 s b R (k + 1))) := by
            rw [recs2_succ, fcells_append, fcells_one]; exact hv'
          go_roundw
          case rel => exact ⟨k + 1, ad', cap', N + 1, by omega, by go_num, rfl, by have := HN.out; omega, hv2, h2⟩
          case measure => simp [intOf]; omega
        · have e1 : k = R.n2 := by omega
          have hv0 : Vec wr (w.heap.size + 1) 64 9 ad N cap (fcells (recs3 s b R 0)) := by
            rw [recs3_zero, ← e1]; exact hv
          have N1 : Hid (N = 1 + R.n1 + R.n2) := by have := HN.out; show _ = _; omega
          clear e1 hv HN hk z1
          go_wp2_with fail
          go_loopw [3, 8, 9] (fun v u _ wr => ∃ (k : Nat) (ad : Option Addr) (cap N : Nat), k ≤ R.n3 ∧ u = .int .i64 k ∧ v = .slice ad N cap ∧ N = 1 + R.n1 + R.n2 + k ∧ Vec wr (w.heap.size + 1) 64 9 ad N cap (fcells (recs3 s b R k)) ∧ BoxL w s b R a1 a2 a3 k1 k2 k3 wr) (fun _ u _ _ => R.n3 - (intOf u).toNat)
          case atStart => exact ⟨0, _, _, N, Nat.zero_le _, rfl, rfl, N1.out, hv0, hb⟩
          case round =>
            clear hv0 hb x0 x1 x2 x3 x4 N1 hNb hlt
            obtain ⟨k, ad, cap, N, hk, rfl, rfl, hN, hv, hb⟩ := hrel
            have HN : Hid (N = 1 + R.n1 + R.n2 + k) := hN
            have hNb : N ≤ 3000001 := by omega
            clear hN
            obtain ⟨x0, x1, x2, x3, x4⟩ := hb.cells
            have z1 : w.heap.size + 1 ≤ wr.heap.size := by have := hb.size; simpa using this
            by_cases hlt : k < R.n3
            · obtain ⟨bb, o, hbl, hix, c1, c2⟩ := (hR.below (box_old hb)).l3.edit k3 hlt
              have hvx : ∀ o1 o2, Vec ((wr.alloc o1).alloc o2) (w.heap.size + 1) 64 9 ad N cap (fcells (recs3 s b R k)) := fun o1 o2 => hv.keep (((Below.refl _ wr).alloc (Nat.le_refl _) _).alloc (by simp) _)
              have HX : Hid (∀ o1 o2, Vec ((wr.alloc o1).alloc o2) (w.heap.size + 1) 64 9 ad N cap (fcells (recs3 s b R k))) := hvx
              clear hvx
              go_wp2_with (at_builtin; refine wpList_push (by rfl) _ _ 57 (by rfl) (w.heap.size + 1) 64 9 80 (.agg #[.int .i64 0, .int .i64 0, .int .i64 0, .int .i64 0, .int .i64 0, .int .i64 0, .int .i64 0, .bool false, .string ⟨#[]⟩]) Try.underlying57 (by kernel_rfl) rfl (by decide) ad N cap _ (by rfl) (HX.out _ _) _ _ (fdEdit (R.e k)).cells (by rfl) rfl ?_ ?_ ?_ ?_ ?_ ?_; exact new_cells2 _ _ _ _; (simp [Value.oneCell', fdEdit]); (omega); (omega); (simp; omega); intro ad' cap' w' hv' hb' hs')
              have h2 : BoxL w s b R a1 a2 a3 k1 k2 k3 w' := ((hb.alloc z1 _).alloc (by simp; omega) _).trans hb'
              have hv2 : Vec w' (w.heap.size + 1) 64 9 ad' (N + 1) cap' (fcells (recs3 s b R (k + 1))) := by
                rw [recs3_succ, fcells_append, fcells_one]; exact hv'
              go_roundw
              case rel => exact ⟨k + 1, ad', cap', N + 1, by omega, by go_num, rfl, by have := HN.out; omega, hv2, h2⟩
              case measure => simp [intOf]; omega
            · have e1 : k = R.n3 := by omega
              have hv0 : Vec wr (w.heap.size + 1) 64 9 ad N cap (fcells (recsOf s b R)) := by
                unfold recsOf; rw [← e1]; exact hv
              have N1 : Hid (N = (recsOf s b R).length) := by have := HN.out; show _ = _; rw [recsOf_length]; omega
              clear e1 hv HN hk z1
              go_wp2_with fail
              go_ret
              exact ⟨ad, cap, N, rfl, N1.out, hv0.mono (by omega), box_old hb⟩
end Go.Proofs.Ytdjpkgaicmklmaa

/- The reference's bits of bytes, walked. -/
namespace Go.Proofs.Ytdjpkgaicmklmaa
open Go.RowKit

set_option maxRecDepth 100000 in
set_option maxHeartbeats 2000000 in
theorem bits_any (s : List UInt8) (w : World) (hs : s.length ≤ 8796093022208) :
    Calls Try.prog 135 #[.string (str s)] w fun e w' => ∃ ad cap, e = .returned (.slice ad (8 * s.length) cap) ∧ Vec w' w.heap.size 4 1 ad (8 * s.length) cap ((allBits s).map Value.bool) ∧ Below w.heap.size w w' := by
  have hz := str_size s
  have HZ : Hid ((str s).size = s.length) := hz
  clear hz
  have hs2 : (str s).size ≤ 8796093022208 := by rw [HZ.out]; exact hs
  go_enter Try.func135, Try.ntmps135
  go_wp2
  go_loopw [3, 4, 5] (fun v u _ wr => ∃ (i : Nat) (ad : Option Addr) (cap N : Nat), i ≤ (str s).size ∧ u = .int .i64 i ∧ v = .slice ad N cap ∧ N = 8 * i ∧ Vec wr w.heap.size 4 1 ad N cap ((allBits (s.take i)).map Value.bool) ∧ Below w.heap.size w wr) (fun _ u _ _ => (str s).size - (intOf u).toNat)
  case atStart => exact ⟨0, none, 0, 0, Nat.zero_le _, rfl, rfl, rfl, Vec.nil _ _ _ _, Below.refl _ _⟩
  case round =>
    obtain ⟨i, ad, cap, N, hi, rfl, rfl, hN, hv, hb⟩ := hrel
    have HN : Hid (N = 8 * i) := hN
    clear hN
    by_cases hlt : i < (str s).size
    · have hlt2 : i < s.length := by rw [← HZ.out]; exact hlt
      have hd1 : decide ((i : Int) < ((str s).size : Int)) = true := by simp; omega
      go_wp2
      go_loopw [3, 5] (fun v u wr => ∃ (j : Nat) (ad : Option Addr) (cap M : Nat), j ≤ 8 ∧ u = .int .i64 (7 - (j : Int)) ∧ v = .slice ad M cap ∧ M = N + j ∧ Vec wr w.heap.size 4 1 ad M cap ((allBits (s.take i) ++ (bitsOf s[i]).take j).map Value.bool) ∧ Below w.heap.size w wr) (fun _ u _ => (intOf u + 1).toNat)
      case atStart => exact ⟨0, ad, cap, N, Nat.zero_le _, rfl, rfl, rfl, by simpa using hv, hb⟩
      case round =>
        clear hv hb
        obtain ⟨j, ad, cap, M, hj, rfl, rfl, hM, hv, hb⟩ := hrel
        have HM : Hid (M = N + j) := hM
        have hMb : M ≤ 70368744177664 + 8 := by have := HN.out; omega
        clear hM
        by_cases hjt : j < 8
        · have hz := hb.size
          have ew : wrap64 (((str s)[i]'hlt).toNat : Int) = ((s[i].toNat : Nat) : Int) := by
            have h8 := (s[i]).toNat_lt
            have e0 : ((str s)[i]'hlt).toNat = s[i].toNat := rfl
            rw [e0]; unfold wrap64; omega
          have h8 := (s[i]).toNat_lt
          have eb : (bits BinOp.and IntKind.i64 (wrap64 (((str s)[i]'hlt).toNat : Int) / 2 ^ (7 - j)) 1 == 1) = s[i].toNat.testBit (7 - j) := by
            rw [ew, bit_test _ _ (by omega)]
          have EB : Hid ((bits BinOp.and IntKind.i64 (wrap64 (((str s)[i]'hlt).toNat : Int) / 2 ^ (7 - j)) 1 == 1) = s[i].toNat.testBit (7 - j)) := eb
          clear eb ew h8
          go_wp2_with (at_builtin; rw [EB.out]; refine wpList_push (by rfl) _ _ 155 (by rfl) w.heap.size 4 1 1 (.bool false) Try.underlying155 (by kernel_rfl) rfl (by decide) ad M cap _ (by rfl) (hv.keep ((Below.refl _ _).alloc (Nat.le_refl _) _)) _ _ [.bool (s[i].toNat.testBit (7 - j))] (by rfl) rfl ?_ ?_ ?_ ?_ ?_ ?_; exact new_cells _ _ _; (simp [Value.oneCell']); (omega); (omega); (simp; omega); intro ad' cap' w' hv' hb' hs')
          have hb2 : Below w.heap.size w w' := hb.trans (((Below.refl _ wr).alloc (Nat.le_refl _) _).mono hz |>.trans hb')
          have hv2 : Vec w' w.heap.size 4 1 ad' (M + 1) cap' ((allBits (s.take i) ++ (bitsOf s[i]).take (j + 1)).map Value.bool) := by
            rw [bitsOf_take _ _ hjt]; simpa using hv'
          go_roundw
          case rel => exact ⟨j + 1, ad', cap', M + 1, by omega, by go_num, rfl, by have := HM.out; omega, hv2, hb2⟩
          case measure => simp [intOf]; omega
        · have e1 : j = 8 := by omega
          have e2 : M = 8 * (i + 1) := by have := HM.out; have := HN.out; omega
          have hv2 : Vec wr w.heap.size 4 1 ad M cap ((allBits (s.take (i + 1))).map Value.bool) := by
            have h := hv
            rw [e1, show (bitsOf s[i]).take 8 = bitsOf s[i] from rfl] at h
            rw [List.take_succ_eq_append_getElem hlt2, allBits_append, allBits_one]; exact h
          have E2 : Hid (M = 8 * (i + 1)) := e2
          clear e1 e2 hv
          go_wp2_with fail
          go_roundw
          case rel => exact ⟨i + 1, ad, cap, M, by omega, by go_num, rfl, E2.out, hv2, hb⟩
          case measure => simp [intOf]; omega
    · have e1 : i = s.length := by rw [← HZ.out]; omega
      have e2 : N = 8 * s.length := by have := HN.out; omega
      have hv2 : Vec wr w.heap.size 4 1 ad (8 * s.length) cap ((allBits s).map Value.bool) := by
        have h := hv
        rw [e1, List.take_of_length_le (Nat.le_refl _), e2] at h; exact h
      have E2 : Hid (N = 8 * s.length) := e2
      clear e1 e2 hv HN
      go_wp2_with fail
      rw [E2.out]
      go_ret
      exact ⟨ad, cap, rfl, hv2, hb⟩
end Go.Proofs.Ytdjpkgaicmklmaa

/- Long division of bits comes to the register: the plain mathematics. -/
namespace Go.Proofs.Ytdjpkgaicmklmaa

/-- Bit j of the register, the highest first; behind the 32nd nothing. -/
def reg (c j : Nat) : Bool := decide (j < 32) && c.testBit (31 - j)
/-- Bit t of the bytes; noughts behind. -/
def msg (m : List Bool) (t : Nat) : Bool := m.getD t false
/-- What long division holds at t behind i steps. -/
def lfun (p : Nat) (m : List Bool) (i t : Nat) : Bool := reg (crcB p 4294967295 (m.take i)) (t - i) != msg m t
/-- .. and k places into the i-th step, where the divisor is laid upon it. -/
def gfun (p : Nat) (m : List Bool) (i k t : Nat) : Bool := lfun p m i t != (decide (i + 32 < t + k ∧ t ≤ i + 32) && p.testBit (i + 32 - t))

theorem reg_ones (j : Nat) : reg 4294967295 j = decide (j < 32) := by
  unfold reg
  by_cases h : j < 32
  · have : (4294967295 : Nat).testBit (31 - j) = true := by
      rw [show (4294967295 : Nat) = 2 ^ 32 - 1 by decide, Nat.testBit_two_pow_sub_one]; simp; omega
    simp [h, this]
  · simp [h]

theorem lfun_start (p : Nat) (m : List Bool) (t : Nat) : lfun p m 0 t = (decide (t < 32) != msg m t) := by
  unfold lfun; simp [crcB, reg_ones]

theorem crcB_take (p : Nat) (m : List Bool) (i : Nat) (h : i < m.length) : crcB p 4294967295 (m.take (i + 1)) = cst p (crcB p 4294967295 (m.take i)) m[i] := by
  rw [List.take_succ_eq_append_getElem h, crcB_append]; rfl

theorem lfun_top (p : Nat) (m : List Bool) (i : Nat) (h : i < m.length) : lfun p m i i = ((crcB p 4294967295 (m.take i)).testBit 31 != m[i]) := by
  unfold lfun reg msg
  simp [List.getD, List.getElem?_eq_getElem h]

theorem shl_bit (c j : Nat) (hj : j < 32) : (2 * c % 4294967296).testBit (31 - j) = reg c (j + 1) := by
  rw [show (4294967296 : Nat) = 2 ^ 32 by decide, Nat.testBit_mod_two_pow]
  unfold reg
  by_cases h : j + 1 < 32
  · have e : 31 - j = (31 - (j + 1)) + 1 := by omega
    rw [e, Nat.testBit_succ, Nat.mul_div_cancel_left _ (by omega)]
    simp [h]
    intro _
    omega
  · have e : 31 - j = 0 := by omega
    rw [e]
    simp [h]

/-- A step at which the first bit is not set. -/
theorem lfun_no (p : Nat) (m : List Bool) (i t : Nat) (h : i < m.length) (ht : i < t) (h0 : lfun p m i i = false) : lfun p m (i + 1) t = lfun p m i t := by
  rw [lfun_top p m i h] at h0
  unfold lfun
  rw [crcB_take p m i h]
  unfold cst
  rw [h0, if_neg (by simp)]
  have e : t - i = (t - (i + 1)) + 1 := by omega
  rw [e]
  congr 1
  by_cases hj : t - (i + 1) < 32
  · rw [← shl_bit _ _ hj]; unfold reg; simp [hj]
  · unfold reg; simp [hj]; omega

/-- A step at which it is. -/
theorem lfun_yes (p : Nat) (m : List Bool) (i t : Nat) (h : i < m.length) (ht : i < t) (h0 : lfun p m i i = true) : lfun p m (i + 1) t = gfun p m i 32 t := by
  rw [lfun_top p m i h] at h0
  unfold gfun lfun
  rw [crcB_take p m i h]
  unfold cst
  rw [h0, if_pos rfl]
  have e : t - i = (t - (i + 1)) + 1 := by omega
  rw [e]
  by_cases hj : t - (i + 1) < 32
  · have e2 : i + 32 - t = 31 - (t - (i + 1)) := by omega
    have e3 : (decide (i + 32 < t + 32 ∧ t ≤ i + 32)) = true := by simp; omega
    rw [e2, e3, ← shl_bit _ _ hj]
    unfold reg
    rw [Nat.testBit_xor]
    simp only [hj, decide_true, Bool.true_and]
    generalize (2 * _ % 4294967296).testBit _ = a
    generalize p.testBit _ = b
    generalize msg m t = c
    cases a <;> cases b <;> cases c <;> rfl
  · have e3 : (decide (i + 32 < t + 32 ∧ t ≤ i + 32)) = false := by simp; omega
    rw [e3]
    unfold reg
    have h1 : ¬ t - (i + 1) + 1 < 32 := by omega
    simp [hj, h1]

theorem gfun_start (p : Nat) (m : List Bool) (i t : Nat) : gfun p m i 0 t = lfun p m i t := by
  unfold gfun
  have : (decide (i + 32 < t + 0 ∧ t ≤ i + 32)) = false := by simp
  rw [this]; simp

theorem gfun_step (p : Nat) (m : List Bool) (i k t : Nat) (hk : k < 32) : gfun p m i (k + 1) t = if t = i + 32 - k ∧ p.testBit k = true then !gfun p m i k t else gfun p m i k t := by
  unfold gfun
  by_cases ht : t = i + 32 - k
  · have e1 : (decide (i + 32 < t + (k + 1) ∧ t ≤ i + 32)) = true := by simp; omega
    have e2 : (decide (i + 32 < t + k ∧ t ≤ i + 32)) = false := by simp; omega
    have e3 : i + 32 - t = k := by omega
    rw [e1, e2, e3]
    cases hb : p.testBit k
    · simp
    · simp [ht]
  · have e1 : (decide (i + 32 < t + (k + 1) ∧ t ≤ i + 32)) = (decide (i + 32 < t + k ∧ t ≤ i + 32)) := by
      rw [Bool.eq_iff_iff]; simp; omega
    rw [e1, if_neg (fun h => ht h.1)]

/-- What is read at the end. -/
theorem lfun_end (p : Nat) (m : List Bool) (k : Nat) (hk : k < 32) : lfun p m m.length (m.length + k) = (crcB p 4294967295 m).testBit (31 - k) := by
  unfold lfun reg msg
  have e1 : m.length + k - m.length = k := by omega
  rw [e1, List.take_of_length_le (Nat.le_refl _)]
  simp [hk, List.getD]

theorem gather (x k : Nat) (hk : k < 32) : x / 2 ^ (32 - (k + 1)) = 2 * (x / 2 ^ (32 - k)) + (x.testBit (31 - k)).toNat := by
  have e : 32 - k = (31 - k) + 1 := by omega
  have e2 : 32 - (k + 1) = 31 - k := by omega
  rw [e, e2, Nat.pow_succ, ← Nat.div_div_eq_div_mul, Nat.testBit_eq_decide_div_mod_eq]
  generalize x / 2 ^ (31 - k) = y
  by_cases h : y % 2 = 1
  · simp [h]; omega
  · simp [h]; omega

theorem not_bit (c k : Nat) (hk : k < 32) : (c ^^^ 4294967295).testBit (31 - k) = !c.testBit (31 - k) := by
  rw [Nat.testBit_xor]
  have : (4294967295 : Nat).testBit (31 - k) = true := by
    rw [show (4294967295 : Nat) = 2 ^ 32 - 1 by decide, Nat.testBit_two_pow_sub_one]; simp; omega
  rw [this]; simp
end Go.Proofs.Ytdjpkgaicmklmaa

/- The reference's long division, walked. -/
namespace Go.Proofs.Ytdjpkgaicmklmaa
open Go.RowKit

/-- Element i of a list of bools. -/
theorem Vec.boolAt {w : World} {B : Nat} {ad : Option Addr} {n cap : Nat} {L : List Bool} (h : Vec w B 4 1 ad n cap (L.map Value.bool)) (i : Nat) (x : Bool) (hx : L[i]? = some x) (N : Int) (hN : N = (i : Int)) :
    ∃ b o, B ≤ b ∧ b < w.heap.size ∧ (∀ w', (Instr.indexAt 155 (.slice ad n cap) (.int .i64 N)).run Try.prog w' = .ok (.pointer (some ⟨b, o, none⟩)) w') ∧
      w.cell? ⟨b, o, none⟩ = some (.bool x) ∧ w.frozen? ⟨b, o, none⟩ = false ∧ (∀ y, Vec (w.setCell ⟨b, o, none⟩ (.bool y)) B 4 1 ad n cap ((L.set i y).map Value.bool)) := by
  have hi : i < n := by
    have h1 := h.length
    have h2 : i < L.length := by
      rcases Nat.lt_or_ge i L.length with h | h
      · exact h
      · rw [List.getElem?_eq_none h] at hx; cases hx
    simp at h1; omega
  obtain ⟨b, o, hB, hl, hix, hc, hf, hs⟩ := h.at (P := Try.prog) (t := 155) (by kernel_rfl) (by kernel_rfl) hi N hN
  refine ⟨b, o, hB, hl, hix, ?_, ?_, fun y => ?_⟩
  · have := hc 0 (by omega)
    rw [Nat.add_zero, Nat.mul_one, Nat.add_zero, List.getElem?_map, hx] at this
    exact this
  · have := hf 0
    rwa [Nat.add_zero] at this
  · have := hs 0 (.bool y)
    rw [Nat.add_zero, Nat.mul_one, Nat.add_zero] at this
    rw [List.map_set]; exact this

/-- A list by its places. -/
def Fun (L : List Bool) (N a : Nat) (F : Nat → Bool) : Prop := L.length = N ∧ ∀ t, a ≤ t → t < N → L[t]? = some (F t)
theorem Fun.set {L : List Bool} {N a : Nat} {F G : Nat → Bool} (h : Fun L N a F) (i : Nat) (y : Bool) (hi : i < N) (hG : ∀ t, a ≤ t → t < N → G t = if t = i then y else F t) : Fun (L.set i y) N a G := by
  refine ⟨by simpa using h.1, fun t ha ht => ?_⟩
  rw [hG t ha ht]
  have := h.1
  by_cases e : t = i
  · subst e; rw [List.getElem?_set_self (by omega), if_pos rfl]
  · rw [List.getElem?_set_ne (fun h => e h.symm), if_neg e]; exact h.2 t ha ht

theorem fun_start (m : List Bool) : Fun (m ++ List.replicate 32 false) (m.length + 32) 0 (fun t => decide (t < 0) != msg m t) := by
  refine ⟨by simp, fun t _ ht => ?_⟩
  unfold msg
  by_cases h : t < m.length
  · rw [List.getElem?_append_left h]; simp [List.getD, List.getElem?_eq_getElem h]
  · rw [List.getElem?_append_right (by omega), List.getElem?_replicate, if_pos (by omega)]
    simp [List.getD, List.getElem?_eq_none (show m.length ≤ t by omega)]

set_option maxRecDepth 100000 in
set_option maxHeartbeats 8000000 in
theorem left_any (s : List UInt8) (p : Nat) (w : World) (hs : s.length ≤ 8796093022208) (hp : p < 4294967296) :
    Calls Try.prog 102 #[.string (str s), .int .i64 (p : Int)] w fun e w' => e = .returned (.int .i64 ((crc p s : Nat) : Int)) ∧ Below w.heap.size w w' := by
  go_enter Try.func102, Try.ntmps102
  go_wp2_with fail
  refine (bits_any s _ hs).mono ?_
  rintro e w1 ⟨ad, cap, rfl, hv, hb⟩
  have hlen := allBits_length s
  have hcrc : crc p s = crcB p 4294967295 (allBits s) ^^^ 4294967295 := rfl
  have HC : Hid (crc p s = crcB p 4294967295 (allBits s) ^^^ 4294967295) := hcrc
  clear hcrc
  generalize allBits s = m at *
  have hn8 : 8 * s.length ≤ 70368744177664 := by omega
  generalize 8 * s.length = n at *
  have HL : Hid (m.length = n) := hlen
  clear hlen
  go_wp2_with fail
  go_loopw [5, 7] (fun u v wr => ∃ (k : Nat) (ad : Option Addr) (cap N : Nat), k ≤ 32 ∧ v = .int .i64 k ∧ u = .slice ad N cap ∧ N = n + k ∧ Vec wr w.heap.size 4 1 ad N cap ((m ++ List.replicate k false).map Value.bool) ∧ Below w.heap.size w wr) (fun _ v _ => 32 - (intOf v).toNat)
  case atStart => exact ⟨0, ad, cap, n, by omega, rfl, rfl, rfl, by simpa using hv, hb⟩
  case round =>
    clear hv hb
    obtain ⟨k, ad, cap, N, hk, rfl, rfl, hN, hv, hb⟩ := hrel
    have HN : Hid (N = n + k) := hN
    have hNb : N ≤ 70368744177664 + 32 := by omega
    clear hN
    have hz := hb.size
    by_cases hlt : k < 32
    · go_wp2_with (at_builtin; refine wpList_push (by rfl) _ _ 155 (by rfl) w.heap.size 4 1 1 (.bool false) Try.underlying155 (by kernel_rfl) rfl (by decide) ad N cap _ (by rfl) (hv.keep ((Below.refl _ _).alloc (Nat.le_refl _) _)) _ _ [.bool false] (by rfl) rfl ?_ ?_ ?_ ?_ ?_ ?_; exact new_cells _ _ _; (simp [Value.oneCell']); (omega); (omega); (simp; omega); intro ad' cap' w' hv' hb' hs')
      have hb2 : Below w.heap.size w w' := hb.trans (((Below.refl _ wr).alloc (Nat.le_refl _) _).mono hz |>.trans hb')
      have hv2 : Vec w' w.heap.size 4 1 ad' (N + 1) cap' ((m ++ List.replicate (k + 1) false).map Value.bool) := by
        rw [List.replicate_succ', ← List.append_assoc, List.map_append]; exact hv'
      go_roundw
      case rel => exact ⟨k + 1, ad', cap', N + 1, by omega, by go_num, rfl, by have := HN.out; omega, hv2, hb2⟩
      case measure => simp [intOf]; omega
    · have e1 : k = 32 := by omega
      subst e1
      have hF : ∃ L, Vec wr w.heap.size 4 1 ad N cap (L.map Value.bool) ∧ Fun L N 0 (fun t => decide (t < 0) != msg m t) :=
        ⟨_, hv, by have := fun_start m; rw [HL.out, ← HN.out] at this; exact this⟩
      clear hv hlt
      go_wp2_with fail
      go_loopw [8] (fun v wr => ∃ (k : Nat) (L : List Bool), k ≤ 32 ∧ v = .int .i64 k ∧ Vec wr w.heap.size 4 1 ad N cap (L.map Value.bool) ∧ Fun L N 0 (fun t => decide (t < k) != msg m t) ∧ Below w.heap.size w wr) (fun v _ => 32 - (intOf v).toNat)
      case atStart =>
        obtain ⟨L, hL, hF⟩ := hF
        exact ⟨0, L, by omega, rfl, hL, hF, hb⟩
      case round =>
        clear hF hb hz hk
        obtain ⟨k, L, hk, rfl, hv, hF, hb⟩ := hrel
        have HF : Hid (Fun L N 0 (fun t => decide (t < k) != msg m t)) := hF
        clear hF
        by_cases hlt : k < 32
        · have hkN : k < N := by have := HN.out; omega
          have hxk : L[k]? = some (msg m k) := by have := HF.out.2 k (by omega) hkN; simpa using this
          generalize hx : msg m k = x at hxk
          have HX : Hid (msg m k = x) := hx
          clear hx
          obtain ⟨b, o, hB, hl, hix, hc, hf, hst⟩ := hv.boolAt k x hxk (k : Int) rfl
          have HS : Hid (∀ y, Vec (wr.setCell ⟨b, o, none⟩ (.bool y)) w.heap.size 4 1 ad N cap ((L.set k y).map Value.bool)) := hst
          clear hst hxk
          go_wp2_with fail
          go_roundw
          case rel =>
            refine ⟨k + 1, L.set k (!x), by omega, by go_num, HS.out _, HF.out.set k (!x) hkN fun t _ _ => ?_, hb.setCell hB _⟩
            by_cases e : t = k
            · subst e; rw [if_pos rfl, HX.out]; simp
            · rw [if_neg e]; congr 1; rw [Bool.eq_iff_iff]; simp; omega
          case measure => simp [intOf]; omega
        · have e1 : k = 32 := by omega
          subst e1
          have hF2 : Fun L N 0 (lfun p m 0) := ⟨HF.out.1, fun t h1 h2 => by rw [lfun_start]; exact HF.out.2 t h1 h2⟩
          have HF2 : Hid (Fun L N 0 (lfun p m 0)) := hF2
          clear hF2 HF hlt
          go_wp2_with fail
          go_loopw [9, 10] (fun v _ wr => ∃ (i : Nat) (L : List Bool), i ≤ n ∧ v = .int .i64 i ∧ Vec wr w.heap.size 4 1 ad N cap (L.map Value.bool) ∧ Fun L N i (lfun p m i) ∧ Below w.heap.size w wr) (fun v _ _ => n - (intOf v).toNat)
          case atStart => exact ⟨0, L, by omega, rfl, hv, HF2.out, hb⟩
          case round =>
            clear HF2 hv hb hk
            obtain ⟨i, L, hi, rfl, hv, hF, hb⟩ := hrel
            have HF : Hid (Fun L N i (lfun p m i)) := hF
            clear hF
            by_cases hlt : i < n
            · have hiN : i < N := by have := HN.out; omega
              have hxk : L[i]? = some (lfun p m i i) := HF.out.2 i (by omega) hiN
              obtain ⟨b, o, hB, hl, hix, hc, hf, hst⟩ := hv.boolAt i _ hxk (i : Int) rfl
              have HS : Hid (∀ y, Vec (wr.setCell ⟨b, o, none⟩ (.bool y)) w.heap.size 4 1 ad N cap ((L.set i y).map Value.bool)) := hst
              have him : i < m.length := by rw [HL.out]; exact hlt
              have hd1 : decide ((i : Int) < (n : Int)) = true := by simp; omega
              clear hst hxk
              cases htop : lfun p m i i
              · have hF2 : Fun L N (i + 1) (lfun p m (i + 1)) := ⟨HF.out.1, fun t h1 h2 => by rw [lfun_no p m i t him (by omega) htop]; exact HF.out.2 t (by omega) h2⟩
                have HF2 : Hid (Fun L N (i + 1) (lfun p m (i + 1))) := hF2
                clear hF2 HF HS
                rw [htop] at hc
                clear htop
                go_wp2_with fail
                go_roundw
                case rel => exact ⟨i + 1, L, by omega, by go_num, hv, HF2.out, hb⟩
                case measure => simp [intOf]; omega
              · rw [htop] at hc
                have hF2 : Fun (L.set i false) N (i + 1) (gfun p m i 0) := ⟨by simpa using HF.out.1, fun t h1 h2 => by rw [List.getElem?_set_ne (by omega), gfun_start]; exact HF.out.2 t (by omega) h2⟩
                have HF2 : Hid (Fun (L.set i false) N (i + 1) (gfun p m i 0)) := hF2
                have HT : Hid (lfun p m i i = true) := htop
                clear hF2 HF htop
                go_wp2_with fail
                go_loopw [10] (fun v wr => ∃ (k : Nat) (L : List Bool), k ≤ 32 ∧ v = .int .i64 k ∧ Vec wr w.heap.size 4 1 ad N cap (L.map Value.bool) ∧ Fun L N (i + 1) (gfun p m i k) ∧ Below w.heap.size w wr) (fun v _ => 32 - (intOf v).toNat)
                case atStart => exact ⟨0, L.set i false, by omega, rfl, HS.out false, HF2.out, hb.setCell hB _⟩
                case round =>
                  clear HF2 HS hv hb hix hc hf hl hB
                  obtain ⟨k, L, hk, rfl, hv, hF, hb⟩ := hrel
                  have HF : Hid (Fun L N (i + 1) (gfun p m i k)) := hF
                  clear hF
                  by_cases hlk : k < 32
                  · have hiN2 : i + 32 - k < N := by have := HN.out; omega
                    have hbt := bit_test p k (by omega)
                    have hxk : L[i + 32 - k]? = some (gfun p m i k (i + 32 - k)) := HF.out.2 _ (by omega) hiN2
                    obtain ⟨b, o, hB, hl, hix, hc, hf, hst⟩ := hv.boolAt (i + 32 - k) _ hxk ((i : Int) + 32 - (k : Int)) (by omega)
                    have HS : Hid (∀ y, Vec (wr.setCell ⟨b, o, none⟩ (.bool y)) w.heap.size 4 1 ad N cap ((L.set (i + 32 - k) y).map Value.bool)) := hst
                    clear hst hxk
                    cases hpk : p.testBit k
                    · rw [hpk] at hbt
                      have hF2 : Fun L N (i + 1) (gfun p m i (k + 1)) := ⟨HF.out.1, fun t h1 h2 => by rw [gfun_step p m i k t hlk, if_neg (by simp [hpk])]; exact HF.out.2 t h1 h2⟩
                      have HF2 : Hid (Fun L N (i + 1) (gfun p m i (k + 1))) := hF2
                      clear hF2 HF HS hpk
                      go_wp2_with fail
                      go_roundw
                      case rel => exact ⟨k + 1, L, by omega, by go_num, hv, HF2.out, hb⟩
                      case measure => simp [intOf]; omega
                    · rw [hpk] at hbt
                      have hF2 : Fun (L.set (i + 32 - k) (!gfun p m i k (i + 32 - k))) N (i + 1) (gfun p m i (k + 1)) := HF.out.set _ _ hiN2 fun t h1 h2 => by
                        rw [gfun_step p m i k t hlk]
                        by_cases e : t = i + 32 - k
                        · subst e; rw [if_pos ⟨rfl, hpk⟩, if_pos rfl]
                        · rw [if_neg (fun h => e h.1), if_neg e]
                      generalize gfun p m i k (i + 32 - k) = x at *
                      have HF2 : Hid (Fun (L.set (i + 32 - k) (!x)) N (i + 1) (gfun p m i (k + 1))) := hF2
                      clear hF2 HF hpk
                      go_wp2_with fail
                      go_roundw
                      case rel => exact ⟨k + 1, L.set (i + 32 - k) (!x), by omega, by go_num, HS.out _, HF2.out, hb.setCell hB _⟩
                      case measure => simp [intOf]; omega
                  · have e1 : k = 32 := by omega
                    subst e1
                    have hF2 : Fun L N (i + 1) (lfun p m (i + 1)) := ⟨HF.out.1, fun t h1 h2 => by rw [lfun_yes p m i t him (by omega) HT.out]; exact HF.out.2 t h1 h2⟩
                    have HF2 : Hid (Fun L N (i + 1) (lfun p m (i + 1))) := hF2
                    clear hF2 HF HT
                    go_wp2_with fail
                    go_roundw
                    case rel => exact ⟨i + 1, L, by omega, by go_num, hv, HF2.out, hb⟩
                    case measure => simp [intOf]; omega
            · have e1 : i = n := by omega
              subst e1
              generalize hX : crcB p 4294967295 m ^^^ 4294967295 = X at HC
              have hXlt : X < 4294967296 := by rw [← hX]; exact Nat.xor_lt_two_pow (n := 32) (crcB_lt hp _ (by omega)) (by omega)
              have hF2 : ∀ k, k < 32 → L[i + k]? = some (!X.testBit (31 - k)) := fun k hk => by
                have h1 := HF.out.2 (i + k) (by omega) (by have := HN.out; omega)
                have h2 := lfun_end p m k hk
                rw [HL.out] at h2
                rw [h1, h2, ← hX, not_bit _ _ hk]; simp
              have HF2 : Hid (∀ k, k < 32 → L[i + k]? = some (!X.testBit (31 - k))) := hF2
              clear hF2 HF hX HL hlt
              go_wp2_with fail
              go_loopw [11, 12] (fun v u wr => ∃ (k V : Nat), k ≤ 32 ∧ u = .int .i64 k ∧ v = .int .i64 (V : Int) ∧ V = X / 2 ^ (32 - k) ∧ Vec wr w.heap.size 4 1 ad N cap (L.map Value.bool) ∧ Below w.heap.size w wr) (fun _ u _ => 32 - (intOf u).toNat)
              case atStart => exact ⟨0, 0, by omega, rfl, rfl, by omega, hv, hb⟩
              case round =>
                clear hv hb
                obtain ⟨k, V, hk, rfl, rfl, hV, hv, hb⟩ := hrel
                have hVle : V ≤ 4294967296 := by rw [hV]; exact Nat.le_trans (Nat.div_le_self _ _) (by omega)
                have HV : Hid (V = X / 2 ^ (32 - k)) := hV
                clear hV
                by_cases hlk : k < 32
                · obtain ⟨b, o, hB, hl, hix, hc, hf, hst⟩ := hv.boolAt (i + k) _ (HF2.out k hlk) ((i : Int) + (k : Int)) (by omega)
                  clear hst
                  have hg := gather X k hlk
                  have HG : Hid (X / 2 ^ (32 - (k + 1)) = 2 * (X / 2 ^ (32 - k)) + (X.testBit (31 - k)).toNat) := hg
                  clear hg
                  cases hbit : X.testBit (31 - k)
                  · rw [hbit] at hc HG
                    simp only [Bool.not_false] at hc
                    clear hbit
                    go_wp2_with fail
                    go_roundw
                    case rel => exact ⟨k + 1, 2 * V, by omega, by go_num, by go_num, by rw [HG.out, HV.out]; rfl, hv, hb⟩
                    case measure => simp [intOf]; omega
                  · rw [hbit] at hc HG
                    simp only [Bool.not_true] at hc
                    clear hbit
                    go_wp2_with fail
                    go_roundw
                    case rel => exact ⟨k + 1, 2 * V + 1, by omega, by go_num, by go_num, by rw [HG.out, HV.out]; rfl, hv, hb⟩
                    case measure => simp [intOf]; omega
                · have e1 : k = 32 := by omega
                  subst e1
                  have e2 : V = crc p s := by rw [HC.out, HV.out]; simp
                  have E2 : Hid (V = crc p s) := e2
                  clear e2
                  go_wp2_with fail
                  go_ret
                  exact ⟨ret_int (by rw [E2.out]), hb⟩

set_option maxHeartbeats 1000000 in
theorem rsum_any (s : List UInt8) (w : World) (hs : s.length ≤ 8796093022208) :
    Calls Try.prog 59 #[.string (str s)] w fun e w' => e = .returned (.int .i64 ((crc pSum s : Nat) : Int)) ∧ Below w.heap.size w w' := by
  go_enter Try.func59, Try.ntmps59
  go_wp2_with fail
  refine (left_any s pSum _ hs (by decide)).mono ?_
  rintro e w' ⟨rfl, hb⟩
  go_wp2_with fail
  go_ret
  exact ⟨rfl, hb⟩
set_option maxHeartbeats 1000000 in
theorem rseal_any (s : List UInt8) (w : World) (hs : s.length ≤ 8796093022208) :
    Calls Try.prog 87 #[.string (str s)] w fun e w' => e = .returned (.int .i64 ((crc pSeal s : Nat) : Int)) ∧ Below w.heap.size w w' := by
  go_enter Try.func87, Try.ntmps87
  go_wp2_with fail
  refine (left_any s pSeal _ hs (by decide)).mono ?_
  rintro e w' ⟨rfl, hb⟩
  go_wp2_with fail
  go_ret
  exact ⟨rfl, hb⟩
end Go.Proofs.Ytdjpkgaicmklmaa

/- A record's bytes and a frame: the reference's written and Frame, walked. -/
namespace Go.Proofs.Ytdjpkgaicmklmaa
open Go.RowKit
attribute [local go_sem] str_size str_append mk_append_str str_append_mk

abbrev BoxF (w : World) (f : Fd) (wr : World) : Prop := Below (w.heap.size + 1) (w.alloc (.cells f.cells.toArray 64)) wr
theorem SF {w : World} {f : Fd} {wr : World} (hb : BoxF w f wr) :
    wr.cell? ⟨w.heap.size, 1, none⟩ = some (.int .i64 f.kind) ∧ wr.cell? ⟨w.heap.size, 2, none⟩ = some (.int .i64 f.seq) ∧ wr.cell? ⟨w.heap.size, 3, none⟩ = some (.int .i64 f.base) ∧ wr.cell? ⟨w.heap.size, 4, none⟩ = some (.int .i64 f.id) ∧
    wr.cell? ⟨w.heap.size, 5, none⟩ = some (.int .i64 f.site) ∧ wr.cell? ⟨w.heap.size, 6, none⟩ = some (.int .i64 f.count) ∧ wr.cell? ⟨w.heap.size, 7, none⟩ = some (.bool f.gone) ∧ wr.cell? ⟨w.heap.size, 8, none⟩ = some (.string f.text) :=
  ⟨boxN hb 1, boxN hb 2, boxN hb 3, boxN hb 4, boxN hb 5, boxN hb 6, boxN hb 7, boxN hb 8⟩

theorem add_str {P : Program} (a b c : List UInt8) (hc : a ++ b = c) (h : c.length ≤ 9223372036854775807) (w : World) : (Op.stringOp .add (str a) (str b)).run P w = .ok (.string (str c)) w := by
  subst hc
  rw [← str_append]
  exact run_string_add_sum _ _ _ (by rw [str_size, str_size]; simpa using h)

set_option maxRecDepth 100000 in
set_option maxHeartbeats 4000000 in
theorem written_clock (c : Ck) (w : World) (h1 : Num c.site) (h2 : Num c.count) :
    Calls Try.prog 126 #[.agg (fdClock c).cells.toArray] w fun e w' => e = .returned (.string (str (recClock c))) ∧ Below w.heap.size w w' := by
  obtain ⟨p1, p2⟩ := h1
  obtain ⟨q1, q2⟩ := h2
  have l1 := numB_length c.site
  have l2 := numB_length c.count
  have E : Hid ((byt 1 :: (numB c.site ++ numB c.count)) = recClock c) := rfl
  have hb0 : BoxF w (fdClock c) (w.alloc (.cells (fdClock c).cells.toArray 64)) := Below.refl _ _
  have hbX : BoxF w (fdClock c) ((w.alloc (.cells (fdClock c).cells.toArray 64)).alloc (.cells #[.int .u8 1] 5)).drew := (hb0.alloc (by simp) _).drew
  have a1 := fun w' => add_str (P := Try.prog) [byt 1] (numB c.site) (byt 1 :: numB c.site) rfl (by simp; omega) w'
  have a2 := fun w' => add_str (P := Try.prog) (byt 1 :: numB c.site) (numB c.count) (byt 1 :: (numB c.site ++ numB c.count)) rfl (by simp; omega) w'
  unfold fdClock at *
  go_enter Try.func126, Try.ntmps126
  go_wp2_with (refine wpList_toString (by rfl) 126 9 5 _ (by rfl) Try.underlying126 Try.underlying5 Try.underlying9 _ _ _ (by rfl) [1] rfl ?_ ?_; exact new_cells2 _ _ _ _)
  go_region_held3 (fun w' => w'.cell? ⟨w.heap.size, 5, none⟩ = some (.int .i64 c.site) ∧ w'.cell? ⟨w.heap.size, 6, none⟩ = some (.int .i64 c.count))
    (first | (go_keep; done) | (exact ⟨boxN hbX 5, boxN hbX 6⟩))
    (first | (go_at_call 149; refine (rnumber_any _ _ (by first | exact p1 | exact q1) (by first | exact p2 | exact q2)).mono ?_; rintro e w' ⟨rfl, hb2⟩; have hbX := box_step hbX hb2))
  clear a1 a2
  go_wp2_with fail
  go_ret
  exact ⟨ret_str E.out, box_old hbX⟩

set_option maxRecDepth 100000 in
set_option maxHeartbeats 4000000 in
theorem written_edit (c : Ed) (w : World) (h1 : Num c.id) (ht : c.text.size ≤ 1000000) :
    Calls Try.prog 126 #[.agg (fdEdit c).cells.toArray] w fun e w' => e = .returned (.string (str (recEdit c))) ∧ Below w.heap.size w w' := by
  obtain ⟨p1, p2⟩ := h1
  obtain ⟨t, htt⟩ : ∃ t, c.text = str t := ⟨c.text.data.toList, (str_data _).symm⟩
  have E : Hid ((byt 3 :: (numB c.id ++ t)) = recEdit c) := by show _ = _; unfold recEdit; rw [htt]; rfl
  unfold fdEdit
  rw [htt] at ht ⊢
  rw [str_size] at ht
  have l1 := numB_length c.id
  have hb0 : BoxF w ⟨0, 3, 0, 0, c.id, 0, 0, false, str t⟩ (w.alloc (.cells (Fd.cells ⟨0, 3, 0, 0, c.id, 0, 0, false, str t⟩).toArray 64)) := Below.refl _ _
  have hbX : BoxF w ⟨0, 3, 0, 0, c.id, 0, 0, false, str t⟩ ((w.alloc (.cells (Fd.cells ⟨0, 3, 0, 0, c.id, 0, 0, false, str t⟩).toArray 64)).alloc (.cells #[.int .u8 3] 5)).drew := (hb0.alloc (by simp) _).drew
  have a1 := fun w' => add_str (P := Try.prog) [byt 3] (numB c.id) (byt 3 :: numB c.id) rfl (by simp; omega) w'
  have a2 := fun w' => add_str (P := Try.prog) (byt 3 :: numB c.id) t (byt 3 :: (numB c.id ++ t)) rfl (by simp; omega) w'
  clear htt
  go_enter Try.func126, Try.ntmps126
  go_wp2_with (refine wpList_toString (by rfl) 126 9 5 _ (by rfl) Try.underlying126 Try.underlying5 Try.underlying9 _ _ _ (by rfl) [3] rfl ?_ ?_; exact new_cells2 _ _ _ _)
  go_region_held3 (fun w' => w'.cell? ⟨w.heap.size, 4, none⟩ = some (.int .i64 c.id) ∧ w'.cell? ⟨w.heap.size, 8, none⟩ = some (.string (str t)))
    (first | (go_keep; done) | (exact ⟨boxN hbX 4, boxN hbX 8⟩))
    (first | (go_at_call 149; refine (rnumber_any _ _ p1 p2).mono ?_; rintro e w' ⟨rfl, hb2⟩; have hbX := box_step hbX hb2))
  clear a1 a2
  go_wp2_with fail
  go_ret
  exact ⟨ret_str E.out, box_old hbX⟩

set_option maxRecDepth 100000 in
set_option maxHeartbeats 4000000 in
theorem written_card (c : Cd) (w : World) (h1 : Num c.id) (h2 : Num c.site) (h3 : Num c.count) (ht : c.text.size ≤ 1000000) :
    Calls Try.prog 126 #[.agg (fdCard c).cells.toArray] w fun e w' => e = .returned (.string (str (recCard c))) ∧ Below w.heap.size w w' := by
  obtain ⟨p1, p2⟩ := h1
  obtain ⟨q1, q2⟩ := h2
  obtain ⟨r1, r2⟩ := h3
  obtain ⟨t, htt⟩ : ∃ t, c.text = str t := ⟨c.text.data.toList, (str_data _).symm⟩
  have E : Hid ((byt 2 :: (numB c.id ++ (numB c.site ++ (numB c.count ++ ((if c.gone then 1 else 0) :: t))))) = recCard c) := by show _ = _; unfold recCard; rw [htt]; rfl
  unfold fdCard
  rw [htt] at ht ⊢
  rw [str_size] at ht
  have l1 := numB_length c.id
  have l2 := numB_length c.site
  have l3 := numB_length c.count
  clear htt
  obtain ⟨id, site, count, gone, text⟩ := c
  simp only at *
  have hb0 : BoxF w ⟨0, 2, 0, 0, id, site, count, gone, str t⟩ (w.alloc (.cells (Fd.cells ⟨0, 2, 0, 0, id, site, count, gone, str t⟩).toArray 64)) := Below.refl _ _
  have hbX : BoxF w ⟨0, 2, 0, 0, id, site, count, gone, str t⟩ ((w.alloc (.cells (Fd.cells ⟨0, 2, 0, 0, id, site, count, gone, str t⟩).toArray 64)).alloc (.cells #[.int .u8 2] 5)).drew := (hb0.alloc (by simp) _).drew
  have a1 := fun w' => add_str (P := Try.prog) [byt 2] (numB id) (byt 2 :: numB id) rfl (by simp; omega) w'
  have a2 := fun w' => add_str (P := Try.prog) (byt 2 :: numB id) (numB site) (byt 2 :: (numB id ++ numB site)) rfl (by simp; omega) w'
  have a3 := fun w' => add_str (P := Try.prog) (byt 2 :: (numB id ++ numB site)) (numB count) (byt 2 :: (numB id ++ (numB site ++ numB count))) (by simp) (by simp; omega) w'
  have a4 : ∀ w', (Op.stringOp .add (str (byt 2 :: (numB id ++ (numB site ++ numB count)))) ⟨#[0]⟩).run Try.prog w' = .ok (.string (str (byt 2 :: (numB id ++ (numB site ++ (numB count ++ [0])))))) w' := fun w' => add_str (P := Try.prog) _ [0] _ (by simp) (by simp; omega) w'
  have a5 : ∀ w', (Op.stringOp .add (str (byt 2 :: (numB id ++ (numB site ++ numB count)))) ⟨#[1]⟩).run Try.prog w' = .ok (.string (str (byt 2 :: (numB id ++ (numB site ++ (numB count ++ [1])))))) w' := fun w' => add_str (P := Try.prog) _ [1] _ (by simp) (by simp; omega) w'
  have a6 := fun w' => add_str (P := Try.prog) (byt 2 :: (numB id ++ (numB site ++ (numB count ++ [0])))) t (byt 2 :: (numB id ++ (numB site ++ (numB count ++ (0 :: t))))) (by simp) (by simp; omega) w'
  have a7 := fun w' => add_str (P := Try.prog) (byt 2 :: (numB id ++ (numB site ++ (numB count ++ [1])))) t (byt 2 :: (numB id ++ (numB site ++ (numB count ++ (1 :: t))))) (by simp) (by simp; omega) w'
  cases gone
  all_goals
    go_enter Try.func126, Try.ntmps126
    go_wp2_with (refine wpList_toString (by rfl) 126 9 5 _ (by rfl) Try.underlying126 Try.underlying5 Try.underlying9 _ _ _ (by rfl) [2] rfl ?_ ?_; exact new_cells2 _ _ _ _)
    go_region_held3 (fun w' => w'.cell? ⟨w.heap.size, 4, none⟩ = some (.int .i64 id) ∧ w'.cell? ⟨w.heap.size, 5, none⟩ = some (.int .i64 site) ∧ w'.cell? ⟨w.heap.size, 6, none⟩ = some (.int .i64 count) ∧ w'.cell? ⟨w.heap.size, 8, none⟩ = some (.string (str t)))
      (first | (go_keep; done) | (exact ⟨boxN hbX 4, boxN hbX 5, boxN hbX 6, boxN hbX 8⟩))
      (first | (go_at_call 149; refine (rnumber_any _ _ (by first | exact p1 | exact q1 | exact r1) (by first | exact p2 | exact q2 | exact r2)).mono ?_; rintro e w' ⟨rfl, hb2⟩; have hbX := box_step hbX hb2))
    clear a1 a2 a3 a4 a5 a6 a7
    go_wp2_with fail
    go_ret
    exact ⟨ret_str E.out, box_old hbX⟩

set_option maxRecDepth 100000 in
set_option maxHeartbeats 4000000 in
theorem written_head (seq base : Int) (w : World) (h1 : Num seq) (h2 : 0 ≤ base) (h3 : base ≤ 4294967295) :
    Calls Try.prog 126 #[.agg (fdHead seq base).cells.toArray] w fun e w' => e = .returned (.string (str (recHead seq base))) ∧ Below w.heap.size w w' := by
  obtain ⟨p1, p2⟩ := h1
  have l1 := numB_length seq
  have l2 : (fourI base).length ≤ 4 := Nat.le_refl _
  have hb0 : BoxF w (fdHead seq base) (w.alloc (.cells (fdHead seq base).cells.toArray 64)) := Below.refl _ _
  have hb1 : BoxF w (fdHead seq base) ((w.alloc (.cells (fdHead seq base).cells.toArray 64)).alloc (.cells #[.int .u8 4] 5)) := hb0.alloc (by simp) _
  clear hb0
  unfold fdHead at *
  by_cases hs : seq = 0
  · have hs2 : seq ≤ 0 := by omega
    have E : Hid ((byt 4 :: numB seq) = recHead seq base) := by show _ = _; unfold recHead; rw [if_pos hs]; simp; rfl
    clear hs
    go_enter Try.func126, Try.ntmps126
    go_wp2_with (refine wpList_toString (by rfl) 126 9 5 _ (by rfl) Try.underlying126 Try.underlying5 Try.underlying9 _ _ _ (by rfl) [4] rfl ?_ ?_; exact new_cells2 _ _ _ _)
    refine (rnumber_any seq _ p1 p2).mono ?_
    rintro e w1 ⟨rfl, hh⟩
    have hb2 := box_step hb1 hh
    clear hh hb1
    have x2 : w1.cell? ⟨w.heap.size, 2, none⟩ = some (.int .i64 seq) := boxN hb2 2
    go_wp2_with fail
    go_ret
    exact ⟨ret_str E.out, box_old hb2⟩
  · have hs2 : 0 < seq := by omega
    have E : Hid ((byt 4 :: (numB seq ++ fourI base)) = recHead seq base) := by show _ = _; unfold recHead; rw [if_neg hs]; rfl
    clear hs
    go_enter Try.func126, Try.ntmps126
    go_wp2_with (refine wpList_toString (by rfl) 126 9 5 _ (by rfl) Try.underlying126 Try.underlying5 Try.underlying9 _ _ _ (by rfl) [4] rfl ?_ ?_; exact new_cells2 _ _ _ _)
    refine (rnumber_any seq _ p1 p2).mono ?_
    rintro e w1 ⟨rfl, hh⟩
    have hb2 := box_step hb1 hh
    clear hh hb1
    have x2 : w1.cell? ⟨w.heap.size, 2, none⟩ = some (.int .i64 seq) := boxN hb2 2
    have x3 : w1.cell? ⟨w.heap.size, 3, none⟩ = some (.int .i64 base) := boxN hb2 3
    go_wp2_with fail
    refine (rfour_any base _ h2 h3).mono ?_
    rintro e w2 ⟨rfl, hh⟩
    have hb3 := box_step hb2 hh
    clear hh hb2 x2 x3
    go_wp2_with fail
    go_ret
    exact ⟨ret_str (by rw [← E.out]), box_old hb3⟩

/-- A record that may be written. -/
def FdOk (f : Fd) : Prop :=
  (∃ s b, f = fdHead s b ∧ Num s ∧ 0 ≤ b ∧ b ≤ 4294967295) ∨ (∃ c : Ck, f = fdClock c ∧ Num c.site ∧ Num c.count) ∨
  (∃ c : Cd, f = fdCard c ∧ Num c.id ∧ Num c.site ∧ Num c.count ∧ c.text.size ≤ 60) ∨ (∃ c : Ed, f = fdEdit c ∧ Num c.id ∧ c.text.size ≤ 60)

theorem written_any (f : Fd) (w : World) (h : FdOk f) :
    Calls Try.prog 126 #[.agg f.cells.toArray] w fun e w' => e = .returned (.string (str (recF f))) ∧ Below w.heap.size w w' := by
  rcases h with ⟨s, b, rfl, h1, h2, h3⟩ | ⟨c, rfl, h1, h2⟩ | ⟨c, rfl, h1, h2, h3, h4⟩ | ⟨c, rfl, h1, h2⟩
  · exact written_head s b w h1 h2 h3
  · exact written_clock c w h1 h2
  · exact written_card c w h1 h2 h3 (by omega)
  · exact written_edit c w h1 (by omega)
end Go.Proofs.Ytdjpkgaicmklmaa

/- The program's sums: divideByte, remainder, Sum, Seal, walked. -/
namespace Go.Proofs.Ytdjpkgaicmklmaa
open Go.RowKit

theorem div1_i64 (p : Nat) (y : Nat) (hp : p < 4294967296) (hy : y < 4294967296) (h : (4294967295 : Int) < (y : Int) * 2) : bits .xor .i64 ((y : Int) * 2) ((p : Int) + 4294967296) = ((div1 p y : Nat) : Int) := by
  have e : ((y : Int) * 2) = ((2 * y : Nat) : Int) := by omega
  have e2 : ((p : Int) + 4294967296) = ((p + 4294967296 : Nat) : Int) := by omega
  rw [e, e2, bits_xor_i64 _ _ (by omega) (by omega)]
  unfold div1
  rw [if_pos (by omega)]
theorem div1_small (p : Nat) (y : Nat) (h : (y : Int) * 2 ≤ 4294967295) : (y : Int) * 2 = ((div1 p y : Nat) : Int) := by
  unfold div1
  rw [if_neg (by omega)]; omega
theorem div1_lt {p y : Nat} (hp : p < 4294967296) (hy : y < 4294967296) : div1 p y < 4294967296 := by
  have := div1_step p y false [] hp hy (by simp)
  simp [high] at this
  rw [this]
  exact cst_lt hp

set_option maxHeartbeats 1000000 in
theorem divideByte_any (x p : Nat) (w : World) (h1 : x < 4294967296) (h3 : p < 4294967296) (P' : Int) (hP : P' = (p : Int) + 4294967296) :
    Calls Try.prog 148 #[.int .i64 x, .int .i64 P'] w fun e w' => e = .returned (.int .i64 ((divN p 8 x : Nat) : Int)) ∧ w' = w := by
  subst hP
  go_enter Try.func148, Try.ntmps148
  go_wp2
  go_loop [0, 5] (fun v i => ∃ (k : Nat) (y : Nat), k ≤ 8 ∧ i = .int .i64 k ∧ v = .int .i64 (y : Int) ∧ y < 4294967296 ∧ divN p (8 - k) y = divN p 8 x) (fun _ i => 8 - (intOf i).toNat)
  case atStart => exact ⟨0, x, Nat.zero_le _, rfl, rfl, h1, rfl⟩
  case round =>
    obtain ⟨k, y, hk, rfl, rfl, hy1, hd⟩ := hrel
    have HD : Hid (divN p (8 - k) y = divN p 8 x) := hd
    clear hd
    by_cases hlt : k < 8
    · have e0 : divN p (8 - (k + 1)) (div1 p y) = divN p 8 x := by
        rw [← HD.out, show 8 - k = (8 - (k + 1)) + 1 by omega, divN]
      have E0 : Hid (divN p (8 - (k + 1)) (div1 p y) = divN p 8 x) := e0
      clear e0 HD
      go_wp2
      · have e1 := div1_i64 p y h3 hy1 (by assumption)
        go_round
        case rel => exact ⟨k + 1, div1 p y, by omega, by go_num, by rw [e1], div1_lt h3 hy1, E0.out⟩
        case measure => simp [intOf]; omega
      · have e1 := div1_small p y (by assumption)
        go_round
        case rel => exact ⟨k + 1, div1 p y, by omega, by go_num, by rw [e1], div1_lt h3 hy1, E0.out⟩
        case measure => simp [intOf]; omega
    · have e1 : k = 8 := by omega
      subst e1
      go_wp2
      go_ret
      exact ⟨ret_int (by rw [← HD.out]; rfl), rfl⟩

theorem take_bytes (s : List UInt8) (k : Nat) (h : k < s.length) : s.take (k + 1) = s.take k ++ [s[k]] := List.take_succ_eq_append_getElem h

set_option maxHeartbeats 2000000 in
theorem remainder_any (s : List UInt8) (p : Nat) (w : World) (hs : s.length ≤ 9223372036854775807) (h3 : p < 4294967296) (P' : Int) (hP : P' = (p : Int) + 4294967296) :
    Calls Try.prog 125 #[.string (str s), .int .i64 P'] w fun e w' => e = .returned (.int .i64 ((crc p s : Nat) : Int)) ∧ w' = w := by
  subst hP
  have hz := str_size s
  have HZ : Hid ((str s).size = s.length) := hz
  clear hz
  have hs2 : (str s).size ≤ 9223372036854775807 := by rw [HZ.out]; exact hs
  go_enter Try.func125, Try.ntmps125
  go_wp2
  go_loop [5, 6] (fun v i => ∃ (k : Nat) (r : Nat), k ≤ (str s).size ∧ i = .int .i64 k ∧ v = .int .i64 (r : Int) ∧ r < 4294967296 ∧ r = crcB p 4294967295 (allBits (s.take k))) (fun _ i => (str s).size - (intOf i).toNat)
  case atStart => exact ⟨0, 4294967295, Nat.zero_le _, rfl, rfl, by omega, rfl⟩
  case round =>
    obtain ⟨k, r, hk, rfl, rfl, hr1, hr⟩ := hrel
    have HR : Hid (r = crcB p 4294967295 (allBits (s.take k))) := hr
    clear hr
    by_cases hlt : k < (str s).size
    · have hlt2 : k < s.length := by rw [← HZ.out]; exact hlt
      go_wp2_with fail
      have eb : wrap64 (wrap64 (((str s)[k]'hlt).toNat : Int) * 16777216) = ((s[k].toNat * 16777216 : Nat) : Int) := by
        have hb := (s[k]).toNat_lt
        have e0 : ((str s)[k]'hlt).toNat = s[k].toNat := rfl
        rw [e0]
        unfold wrap64
        omega
      have hb := (s[k]).toNat_lt
      have ex : bits BinOp.xor IntKind.i64 (r : Int) (wrap64 (wrap64 (((str s)[k]'hlt).toNat : Int) * 16777216)) = ((r ^^^ (s[k].toNat * 16777216) : Nat) : Int) := by
        rw [eb, bits_xor_i64 _ _ (by omega) (by omega)]
      rw [ex]
      have hx : r ^^^ (s[k].toNat * 16777216) < 4294967296 := Nat.xor_lt_two_pow (n := 32) hr1 (by omega)
      have hd := divN_byte p h3 s[k] r hr1
      have HD : Hid (divN p 8 (r ^^^ (s[k].toNat * 16777216)) = crcB p r (bitsOf s[k])) := hd
      clear hd ex eb
      generalize hX : r ^^^ (s[k].toNat * 16777216) = X at *
      clear hX
      refine (divideByte_any X p _ hx h3 _ rfl).mono ?_
      rintro e w' ⟨rfl, rfl⟩
      have hlt3 : divN p 8 X < 4294967296 := by rw [HD.out]; exact crcB_lt h3 _ hr1
      have hfin : divN p 8 X = crcB p 4294967295 (allBits (s.take (k + 1))) := by
        rw [HD.out, HR.out, take_bytes s k hlt2]
        rw [allBits_append, allBits_one, crcB_append]
      have HF : Hid (divN p 8 X = crcB p 4294967295 (allBits (s.take (k + 1)))) := hfin
      clear hfin HD HR
      generalize divN p 8 X = Y at *
      go_wp2_with fail
      go_round
      case rel => exact ⟨k + 1, Y, by omega, by go_num, rfl, hlt3, HF.out⟩
      case measure => simp [intOf]; omega
    · have e1 : k = s.length := by rw [← HZ.out]; omega
      have e2 : crc p s = r ^^^ 4294967295 := by
        unfold crc; rw [HR.out, e1, List.take_of_length_le (Nat.le_refl _)]
      have e3 : bits .xor .i64 (r : Int) 4294967295 = ((crc p s : Nat) : Int) := by
        rw [e2, ← bits_xor_i64 r 4294967295 (by omega) (by omega)]; rfl
      have E3 : Hid (bits .xor .i64 (r : Int) 4294967295 = ((crc p s : Nat) : Int)) := e3
      clear e1 e2 e3 HR
      go_wp2_with fail
      go_ret
      exact ⟨ret_int E3.out, rfl⟩

set_option maxHeartbeats 1000000 in
theorem sum_any (s : List UInt8) (w : World) (hs : s.length ≤ 9223372036854775807) :
    Calls Try.prog 101 #[.string (str s)] w fun e w' => e = .returned (.int .i64 ((crc pSum s : Nat) : Int)) ∧ w' = w := by
  go_enter Try.func101, Try.ntmps101
  go_wp2_with fail
  refine (remainder_any s pSum _ hs (by decide) _ (by decide)).mono ?_
  rintro e w' ⟨rfl, rfl⟩
  go_wp2_with fail
  go_ret
  exact ⟨rfl, rfl⟩
set_option maxHeartbeats 1000000 in
theorem seal_any (s : List UInt8) (w : World) (hs : s.length ≤ 9223372036854775807) :
    Calls Try.prog 83 #[.string (str s)] w fun e w' => e = .returned (.int .i64 ((crc pSeal s : Nat) : Int)) ∧ w' = w := by
  go_enter Try.func83, Try.ntmps83
  go_wp2_with fail
  refine (remainder_any s pSeal _ hs (by decide) _ (by decide)).mono ?_
  rintro e w' ⟨rfl, rfl⟩
  go_wp2_with fail
  go_ret
  exact ⟨rfl, rfl⟩
end Go.Proofs.Ytdjpkgaicmklmaa

/- Frames and bundles of both, walked. -/
namespace Go.Proofs.Ytdjpkgaicmklmaa
open Go.RowKit
attribute [local go_sem] str_size str_append mk_append_str str_append_mk

/-- A frame. -/
def frameB (r : List UInt8) : List UInt8 := 245 :: 95 :: (byt r.length :: (r ++ fourI (crc pSum (byt r.length :: r))))
/-- A bundle of records. -/
def bodyB (l : List Fd) : List UInt8 := 80 :: 82 :: 67 :: 49 :: l.flatMap (fun f => frameB (recF f))
def bundleB (l : List Fd) : List UInt8 := bodyB l ++ fourI (crc pSeal (bodyB l))

theorem frameB_length (r : List UInt8) : (frameB r).length = r.length + 7 := by simp [frameB, fourI]
theorem bodyB_succ (l : List Fd) (f : Fd) : bodyB (l ++ [f]) = bodyB l ++ frameB (recF f) := by simp [bodyB]

theorem recF_length {f : Fd} (h : FdOk f) : (recF f).length ≤ 100 := by
  rcases h with ⟨s, b, rfl, h1, h2, h3⟩ | ⟨c, rfl, h1, h2⟩ | ⟨c, rfl, h1, h2, h3, h4⟩ | ⟨c, rfl, h1, h2⟩
  · have := numB_length s
    rw [recF_head]; unfold recHead; split <;> simp [fourI] <;> omega
  · have := numB_length c.site; have := numB_length c.count
    rw [recF_clock]; unfold recClock; simp; omega
  · have := numB_length c.id; have := numB_length c.site; have := numB_length c.count
    rw [recF_card]; unfold recCard; simp
    have e : c.text.data.size = c.text.size := rfl
    omega
  · have := numB_length c.id
    rw [recF_edit]; unfold recEdit; simp
    have e : c.text.data.size = c.text.size := rfl
    omega

theorem bodyB_length (l : List Fd) (h : ∀ f, f ∈ l → FdOk f) : (bodyB l).length ≤ 4 + 107 * l.length := by
  have : ∀ l : List Fd, (∀ f, f ∈ l → FdOk f) → (l.flatMap (fun f => frameB (recF f))).length ≤ 107 * l.length := by
    intro l
    induction l with
    | nil => intro _; simp
    | cons f l ih =>
      intro h
      have h1 := recF_length (h f (by simp))
      have h2 := ih (fun x hx => h x (by simp [hx]))
      simp only [List.flatMap_cons, List.length_append, frameB_length, List.length_cons]
      omega
  have := this l h
  simp only [bodyB, List.length_cons]
  omega

theorem crc_le (p : Nat) (hp : p < 4294967296) (l : List UInt8) : 0 ≤ ((crc p l : Nat) : Int) ∧ ((crc p l : Nat) : Int) ≤ 4294967295 := by
  have := crc_lt hp l; omega

set_option maxRecDepth 100000 in
set_option maxHeartbeats 1000000 in
theorem frame_any (r : List UInt8) (w : World) (hr : r.length ≤ 255) :
    Calls Try.prog 82 #[.string (str r)] w fun e w' => e = .returned (.string (str (frameB r))) ∧ Below w.heap.size w w' := by
  have E : Hid (245 :: 95 :: (byt r.length :: (r ++ fourI (crc pSum (byt r.length :: r)))) = frameB r) := rfl
  have l4 : ∀ n, (fourI n).length ≤ 4 := fun _ => Nat.le_refl _
  go_enter Try.func82, Try.ntmps82
  go_wp2_with fail
  refine (oneByte_any _ _ (by omega) (by omega)).mono ?_
  rintro e w1 ⟨rfl, hb1⟩
  go_wp2_with fail
  refine (sum_any (byt r.length :: r) _ (by simp; omega)).mono ?_
  rintro e w2 ⟨rfl, rfl⟩
  obtain ⟨c1, c2⟩ := crc_le pSum (by decide) (byt r.length :: r)
  generalize crc pSum (byt r.length :: r) = C at *
  go_wp2_with fail
  refine (fourBytes_any _ _ c1 c2).mono ?_
  rintro e w3 ⟨rfl, hb3⟩
  have l5 := l4 (C : Int)
  generalize fourI (C : Int) = t at *
  clear l4
  go_wp2_with fail
  go_ret
  exact ⟨ret_str E.out, hb1.trans (hb3.mono hb1.size)⟩

set_option maxRecDepth 100000 in
set_option maxHeartbeats 1000000 in
theorem rframe_any (f : Fd) (w : World) (h : FdOk f) :
    Calls Try.prog 86 #[.agg f.cells.toArray] w fun e w' => e = .returned (.string (str (frameB (recF f)))) ∧ Below w.heap.size w w' := by
  have hr := recF_length h
  have hb0 : BoxF w f (w.alloc (.cells f.cells.toArray 64)) := Below.refl _ _
  have hw := written_any f (w.alloc (.cells f.cells.toArray 64)) h
  go_enter Try.func86, Try.ntmps86
  go_wp2_with fail
  refine hw.mono ?_
  rintro e w1 ⟨rfl, hh⟩
  have hb1 := box_step hb0 hh
  clear hh hb0
  generalize hrr : recF f = r at *
  have HR : Hid (recF f = r) := hrr
  clear hrr
  have E : Hid (245 :: 95 :: (byt r.length :: (r ++ fourI (crc pSum (byt r.length :: r)))) = frameB r) := rfl
  have l4 : ∀ n, (fourI n).length ≤ 4 := fun _ => Nat.le_refl _
  go_wp2_with (refine wpList_toString (by rfl) 126 9 5 _ (by rfl) Try.underlying126 Try.underlying5 Try.underlying9 _ _ _ (by rfl) [(r.length : Int)] rfl ?_ ?_; exact new_cells _ _ _)
  have hb2 := hb1.alloc (by have := hb1.size; simpa using this) (.cells #[.int .u8 (r.length : Int)] 5)
  refine (rsum_any (byt r.length :: r) _ (by simp; omega)).mono ?_
  rintro e w2 ⟨rfl, hh⟩
  have hb3 := box_step hb2 hh
  clear hh hb2 hb1
  obtain ⟨c1, c2⟩ := crc_le pSum (by decide) (byt r.length :: r)
  generalize crc pSum (byt r.length :: r) = C at *
  go_wp2_with fail
  refine (rfour_any _ _ c1 c2).mono ?_
  rintro e w3 ⟨rfl, hh⟩
  have hb4 := box_step hb3 hh
  clear hh hb3
  have l5 := l4 (C : Int)
  generalize fourI (C : Int) = t at *
  clear l4
  go_wp2_with fail
  go_ret
  exact ⟨ret_str (by rw [HR.out]; exact E.out), box_old hb4⟩

theorem Fit.ok {R : Rep} (hF : Fit R) {s b : Int} (hs : Num s) (hb1 : 0 ≤ b) (hb2 : b ≤ 4294967295) : ∀ f, f ∈ recsOf s b R → FdOk f := by
  intro f h
  simp only [recsOf, recs3, recs2, recs1, List.mem_append, List.mem_cons, List.mem_map, List.mem_range] at h
  rcases h with ((rfl | ⟨i, hi, rfl⟩) | ⟨i, hi, rfl⟩) | ⟨i, hi, rfl⟩
  · exact Or.inl ⟨s, b, rfl, hs, hb1, hb2⟩
  · obtain ⟨g1, g2⟩ := hF.c1 i hi
    exact Or.inr (Or.inl ⟨_, rfl, g1, g2⟩)
  · obtain ⟨g1, g2, g3, g4⟩ := hF.d1 i hi
    exact Or.inr (Or.inr (Or.inl ⟨_, rfl, g1, g2, g3, g4⟩))
  · obtain ⟨g1, g2⟩ := hF.e1 i hi
    exact Or.inr (Or.inr (Or.inr ⟨_, rfl, g1, g2⟩))

set_option maxRecDepth 100000 in
set_option maxHeartbeats 4000000 in
theorem bundle_any (s b : Int) (R : Rep) (a1 a2 a3 : Option Addr) (k1 k2 k3 : Nat) (w : World) (hR : Has w R a1 a2 a3) (hF : Fit R) (hs : Num s) (hb1 : 0 ≤ b) (hb2 : b ≤ 4294967295) :
    Calls Try.prog 41 #[.agg (lnkA s b R a1 a2 a3 k1 k2 k3)] w fun e w' => e = .returned (.string (str (bundleB (recsOf s b R)))) ∧ Below w.heap.size w w' := by
  have m1 := hF.n1; have m2 := hF.n2; have m3 := hF.n3
  have h0 : BoxL w s b R a1 a2 a3 k1 k2 k3 (w.alloc (.cells (lnkA s b R a1 a2 a3 k1 k2 k3) 75)) := Below.refl _ _
  have hrec := recordsOf_any s b R a1 a2 a3 k1 k2 k3 (w.alloc (.cells (lnkA s b R a1 a2 a3 k1 k2 k3) 75)) (hR.below (box_old h0)) hF hs hb1 hb2
  go_enter Try.func41, Try.ntmps41
  go_wp2_with fail
  refine hrec.mono ?_
  rintro e w1 ⟨ad, cap, N, rfl, hN, hv, hh⟩
  have h1 := box_old (box_step h0 hh)
  clear hh h0 hrec
  have hok := hF.ok hs hb1 hb2
  have hNb : N ≤ 3000001 := by rw [hN, recsOf_length]; omega
  generalize hll : recsOf s b R = l at *
  have HLL : Hid (recsOf s b R = l) := hll
  clear hll
  have HN : Hid (N = l.length) := hN
  have HO : Hid (∀ f, f ∈ l → FdOk f) := hok
  clear hN hok
  go_wp2_with fail
  go_loopw [4, 5, 6] (fun v u _ wr => ∃ (k : Nat) (B : List UInt8), k ≤ N ∧ u = .int .i64 k ∧ v = .string (str B) ∧ B = bodyB (l.take k) ∧ B.length ≤ 400000000 ∧ Below w1.heap.size w1 wr) (fun _ u _ _ => N - (intOf u).toNat)
  case atStart => exact ⟨0, [80, 82, 67, 49], Nat.zero_le _, rfl, rfl, rfl, by simp, Below.refl _ _⟩
  case round =>
    obtain ⟨k, B, hk, rfl, rfl, hB, hBl, hb⟩ := hrel
    have HB : Hid (B = bodyB (l.take k)) := hB
    clear hB
    by_cases hlt : k < N
    · have hl : k < l.length := by rw [← HN.out]; exact hlt
      have hvr := hv.keep hb
      obtain ⟨bb, o, _, hbl, hix, hc, _, _⟩ := hvr.at (P := Try.prog) (t := 46) (by kernel_rfl) (by kernel_rfl) hlt (k : Int) rfl
      have hcell : wr.cell? ⟨bb, o, none⟩ = some (.string (str (recF l[k]))) := by
        have := hc 0 (by omega)
        rw [Nat.add_zero, Nat.mul_one, Nat.add_zero, List.getElem?_map, List.getElem?_eq_getElem hl] at this
        exact this
      have hfk := HO.out l[k] (List.getElem_mem hl)
      have hfl := recF_length hfk
      have hbod : bodyB (l.take (k + 1)) = B ++ frameB (recF l[k]) := by
        rw [List.take_succ_eq_append_getElem hl, bodyB_succ, HB.out]
      have hbl2 := bodyB_length (l.take (k + 1)) (fun f hf => HO.out f (List.mem_of_mem_take hf))
      rw [hbod] at hbl2
      have hfr := frameB_length (recF l[k])
      have hk3 : (l.take (k + 1)).length ≤ 3000001 := by rw [List.length_take]; have := HN.out; omega
      have hbl3 : (B ++ frameB (recF l[k])).length ≤ 400000000 := by omega
      have HD : Hid (bodyB (l.take (k + 1)) = B ++ frameB (recF l[k])) := hbod
      clear hc hbod hbl2 hk3 hvr HB hfk
      generalize recF l[k] = r at *
      have hfr2 : (frameB r).length ≤ 200 := by omega
      clear hfr
      go_wp2_with fail
      refine (frame_any r _ (by omega)).mono ?_
      rintro e w2 ⟨rfl, hh⟩
      have hb3 : Below w1.heap.size w1 w2 := hb.trans (hh.mono hb.size)
      clear hh
      generalize frameB r = fr at *
      rw [List.length_append] at hbl3
      go_wp2_with fail
      go_roundw
      case rel => exact ⟨k + 1, B ++ fr, by omega, by go_num, rfl, HD.out.symm, by simp; omega, hb3⟩
      case measure => simp [intOf]; omega
    · have e1 : k = N := by omega
      have E : Hid (B = bodyB l) := by
        have h := HB.out
        rw [e1, HN.out, List.take_of_length_le (Nat.le_refl _)] at h; exact h
      clear e1 HB
      go_wp2_with fail
      refine (seal_any B _ (by omega)).mono ?_
      rintro e w2 ⟨rfl, rfl⟩
      obtain ⟨c1, c2⟩ := crc_le pSeal (by decide) B
      have F : Hid (B ++ fourI (crc pSeal B) = bundleB l) := by show _ = _; rw [E.out]; rfl
      generalize crc pSeal B = C at *
      go_wp2_with fail
      refine (fourBytes_any _ _ c1 c2).mono ?_
      rintro e w3 ⟨rfl, hh⟩
      have l5 : (fourI (C : Int)).length ≤ 4 := Nat.le_refl _
      generalize fourI (C : Int) = t at *
      go_wp2_with fail
      go_ret
      exact ⟨ret_str (by rw [HLL.out]; exact F.out), h1.trans ((hb.trans (hh.mono hb.size)).mono h1.size)⟩
end Go.Proofs.Ytdjpkgaicmklmaa

/- A bundle is of one list of records: numbers end themselves, frames tell their length. -/
namespace Go.Proofs.Ytdjpkgaicmklmaa
open Go.RowKit

theorem byt_inj {a b : Int} (ha : 0 ≤ a) (ha2 : a < 256) (hb : 0 ≤ b) (hb2 : b < 256) (h : byt a = byt b) : a = b := by
  unfold byt at h
  have := congrArg UInt8.toNat h
  simp only [UInt8.toNat_ofNat'] at this
  omega

/-- Numbers end themselves. -/
theorem numI_free : ∀ (k : Nat) (a b : Int), 0 ≤ a → 0 ≤ b → a < 128 ^ (k + 1) → b < 128 ^ (k + 1) → ∀ x y : List UInt8, (numI k a).map byt ++ x = (numI k b).map byt ++ y → a = b ∧ x = y
  | 0, a, b, ha, hb, la, lb, x, y, h => by
    simp [numI] at h la lb
    exact ⟨byt_inj ha (by omega) hb (by omega) h.1, h.2⟩
  | k + 1, a, b, ha, hb, la, lb, x, y, h => by
    have e : (128 : Int) ^ (k + 1 + 1) = 128 ^ (k + 1) * 128 := Int.pow_succ ..
    simp only [numI] at h
    split at h <;> split at h
    · simp at h; exact ⟨byt_inj ha (by omega) hb (by omega) h.1, h.2⟩
    · simp at h
      have := byt_inj ha (by omega) (by omega) (by omega) h.1
      omega
    · simp at h
      have := byt_inj (by omega) (by omega) hb (by omega) h.1
      omega
    · simp only [List.map_cons, List.cons_append, List.cons.injEq] at h
      have h1 := byt_inj (by omega) (by omega) (by omega) (by omega) h.1
      have h2 := numI_free k (a / 128) (b / 128) (by omega) (by omega) (Int.ediv_lt_of_lt_mul (by omega) (by rw [← e]; exact la)) (Int.ediv_lt_of_lt_mul (by omega) (by rw [← e]; exact lb)) x y h.2
      exact ⟨by omega, h2.2⟩
theorem numB_free {a b : Int} (ha : Num a) (hb : Num b) {x y : List UInt8} (h : numB a ++ x = numB b ++ y) : a = b ∧ x = y :=
  numI_free 9 a b ha.1 hb.1 (Int.lt_of_le_of_lt ha.2 (by decide)) (Int.lt_of_le_of_lt hb.2 (by decide)) x y h

theorem ba_ext {a b : ByteArray} (h : a.data.toList = b.data.toList) : a = b := by
  cases a; cases b; simp at h; simp [h]

/-- A record's bytes are of one record. -/
theorem recF_inj {f g : Fd} (hf : FdOk f) (hg : FdOk g) (h : recF f = recF g) (hs : f.seq = 0) (hs2 : g.seq = 0) (hb : f.base = 0) (hb2 : g.base = 0) : f = g := by
  rcases hf with ⟨s, b, rfl, hns, -, -⟩ | ⟨c, rfl, n1, n2⟩ | ⟨c, rfl, n1, n2, n3, -⟩ | ⟨c, rfl, n1, -⟩ <;>
  rcases hg with ⟨s', b', rfl, hns', -, -⟩ | ⟨c', rfl, m1, m2⟩ | ⟨c', rfl, m1, m2, m3, -⟩ | ⟨c', rfl, m1, -⟩ <;>
  simp only [recF_head, recF_clock, recF_card, recF_edit, recHead, recClock, recCard, recEdit, List.cons.injEq] at h
  all_goals first
    | (exact absurd h.1 (by decide))
    | skip
  · have e1 : s = 0 := hs
    have e2 : s' = 0 := hs2
    have e3 : b = 0 := hb
    have e4 : b' = 0 := hb2
    subst e1 e2 e3 e4; rfl
  · obtain ⟨e1, h2⟩ := numB_free n1 m1 h.2
    obtain ⟨e2, -⟩ := numB_free n2 m2 (x := []) (y := []) (by simpa using h2)
    cases c; cases c'; simp at e1 e2; subst e1 e2; rfl
  · obtain ⟨e1, h2⟩ := numB_free n1 m1 h.2
    obtain ⟨e2, h3⟩ := numB_free n2 m2 h2
    obtain ⟨e3, h4⟩ := numB_free n3 m3 h3
    simp only [List.cons.injEq] at h4
    have e4 : c.gone = c'.gone := by
      have := h4.1
      cases hg1 : c.gone <;> cases hg2 : c'.gone <;> simp [hg1, hg2] at this ⊢
    have e5 := ba_ext h4.2
    cases c; cases c'; simp at e1 e2 e3 e4 e5; subst e1 e2 e3 e4 e5; rfl
  · obtain ⟨e1, h2⟩ := numB_free n1 m1 h.2
    have e5 := ba_ext h2
    cases c; cases c'; simp at e1 e5; subst e1 e5; rfl

/-- Frames tell their length. -/
theorem frameB_free {r s : List UInt8} (hr : r.length ≤ 255) (hs : s.length ≤ 255) {x y : List UInt8} (h : frameB r ++ x = frameB s ++ y) : r = s ∧ x = y := by
  simp only [frameB, List.cons_append, List.cons.injEq, List.append_assoc] at h
  obtain ⟨-, -, h1, h2⟩ := h
  have hl : r.length = s.length := by
    have := byt_inj (a := (r.length : Int)) (b := (s.length : Int)) (by omega) (by omega) (by omega) (by omega) h1; omega
  obtain ⟨e1, e2⟩ := List.append_inj h2 hl
  subst e1
  exact ⟨rfl, List.append_cancel_left e2⟩

theorem frames_inj : ∀ (l m : List Fd), (∀ f, f ∈ l → FdOk f ∧ f.seq = 0 ∧ f.base = 0) → (∀ f, f ∈ m → FdOk f ∧ f.seq = 0 ∧ f.base = 0) → l.flatMap (fun f => frameB (recF f)) = m.flatMap (fun f => frameB (recF f)) → l = m
  | [], [], _, _, _ => rfl
  | [], g :: m, _, _, h => by simp [frameB] at h
  | f :: l, [], _, _, h => by simp [frameB] at h
  | f :: l, g :: m, hl, hm, h => by
    simp only [List.flatMap_cons] at h
    have a := hl f (List.mem_cons_self ..)
    have b := hm g (List.mem_cons_self ..)
    obtain ⟨e1, e2⟩ := frameB_free (by have := recF_length a.1; omega) (by have := recF_length b.1; omega) h
    have := recF_inj a.1 b.1 e1 a.2.1 b.2.1 a.2.2 b.2.2
    subst this
    rw [frames_inj l m (fun x hx => hl x (List.mem_cons_of_mem _ hx)) (fun x hx => hm x (List.mem_cons_of_mem _ hx)) e2]

theorem bundleB_inj {l m : List Fd} (hl : ∀ f, f ∈ l → FdOk f ∧ f.seq = 0 ∧ f.base = 0) (hm : ∀ f, f ∈ m → FdOk f ∧ f.seq = 0 ∧ f.base = 0) (h : bundleB l = bundleB m) : l = m := by
  unfold bundleB at h
  have e : (bodyB l).length = (bodyB m).length := by
    have := congrArg List.length h
    simp [fourI] at this; exact this
  obtain ⟨h, -⟩ := List.append_inj h e
  simp only [bodyB, List.cons.injEq, true_and] at h
  exact frames_inj l m hl hm h

/-- All records have no sequence and no base. -/
theorem recsOf_zero (R : Rep) : ∀ f, f ∈ recsOf 0 0 R → f.seq = 0 ∧ f.base = 0 := by
  intro f hf
  simp only [recsOf, recs3, recs2, recs1, List.mem_append, List.mem_cons, List.mem_map] at hf
  rcases hf with ((rfl | ⟨i, _, rfl⟩) | ⟨i, _, rfl⟩) | ⟨i, _, rfl⟩ <;> exact ⟨rfl, rfl⟩

/-- Two replicas are the same. -/
structure Same (R T : Rep) : Prop where
  n1 : R.n1 = T.n1
  n2 : R.n2 = T.n2
  n3 : R.n3 = T.n3
  c : ∀ i, i < R.n1 → R.c i = T.c i
  d : ∀ i, i < R.n2 → R.d i = T.d i
  e : ∀ i, i < R.n3 → R.e i = T.e i

theorem filter_kind (R : Rep) (k : Int) : (recsOf 0 0 R).filter (fun f => f.kind == k) =
    (if k = 4 then [fdHead 0 0] else []) ++ (if k = 1 then (List.range R.n1).map (fun i => fdClock (R.c i)) else []) ++ (if k = 2 then (List.range R.n2).map (fun i => fdCard (R.d i)) else []) ++ (if k = 3 then (List.range R.n3).map (fun i => fdEdit (R.e i)) else []) := by
  have h : ∀ (n : Nat) (f : Nat → Fd) (q : Int), (∀ i, (f i).kind = q) → ((List.range n).map f).filter (fun f => f.kind == k) = if k = q then (List.range n).map f else [] := by
    intro n f q hq
    split
    · rename_i e; subst e
      rw [List.filter_eq_self]; intro x hx; obtain ⟨i, _, rfl⟩ := List.mem_map.1 hx; simp [hq]
    · rename_i e
      rw [List.filter_eq_nil_iff]; intro x hx; obtain ⟨i, _, rfl⟩ := List.mem_map.1 hx; simp [hq]; omega
  unfold recsOf recs3 recs2 recs1
  rw [List.filter_append, List.filter_append, h R.n3 _ 3 (fun _ => rfl), h R.n2 _ 2 (fun _ => rfl), List.filter_cons, h R.n1 _ 1 (fun _ => rfl)]
  congr 2
  by_cases e : k = 4
  · subst e; simp [fdHead]
  · rw [if_neg (by show ¬ ((4 : Int) == k) = true; simp; omega), if_neg e]; simp

theorem map_range_inj {α : Type} {n m : Nat} {f g : Nat → α} (h : (List.range n).map f = (List.range m).map g) : n = m ∧ ∀ i, i < n → f i = g i := by
  have e : n = m := by simpa using congrArg List.length h
  subst e
  refine ⟨rfl, fun i hi => ?_⟩
  have := congrArg (fun l => l[i]?) h
  simpa [hi] using this

theorem recsOf_inj {R T : Rep} (h : recsOf 0 0 R = recsOf 0 0 T) : Same R T := by
  have k1 := congrArg (List.filter (fun f => f.kind == 1)) h
  have k2 := congrArg (List.filter (fun f => f.kind == 2)) h
  have k3 := congrArg (List.filter (fun f => f.kind == 3)) h
  rw [filter_kind, filter_kind] at k1 k2 k3
  simp at k1 k2 k3
  obtain ⟨a1, b1⟩ := map_range_inj k1
  obtain ⟨a2, b2⟩ := map_range_inj k2
  obtain ⟨a3, b3⟩ := map_range_inj k3
  refine ⟨a1, a2, a3, fun i hi => ?_, fun i hi => ?_, fun i hi => ?_⟩
  · have := b1 i hi
    simp [fdClock] at this
    cases hr : R.c i; cases ht : T.c i; simp [hr, ht] at this; simp [this]
  · have := b2 i hi
    simp [fdCard] at this
    cases hr : R.d i; cases ht : T.d i; simp [hr, ht] at this; simp [this]
  · have := b3 i hi
    simp [fdEdit] at this
    cases hr : R.e i; cases ht : T.e i; simp [hr, ht] at this; simp [this]

theorem Same.recs {R T : Rep} (h : Same R T) : recsOf 0 0 R = recsOf 0 0 T := by
  have e1 : (List.range R.n1).map (fun i => fdClock (R.c i)) = (List.range R.n1).map (fun i => fdClock (T.c i)) := List.map_congr_left fun i hi => by rw [h.c i (List.mem_range.1 hi)]
  have e2 : (List.range R.n2).map (fun i => fdCard (R.d i)) = (List.range R.n2).map (fun i => fdCard (T.d i)) := List.map_congr_left fun i hi => by rw [h.d i (List.mem_range.1 hi)]
  have e3 : (List.range R.n3).map (fun i => fdEdit (R.e i)) = (List.range R.n3).map (fun i => fdEdit (T.e i)) := List.map_congr_left fun i hi => by rw [h.e i (List.mem_range.1 hi)]
  unfold recsOf recs3 recs2 recs1
  rw [e1, e2, e3, ← h.n1, ← h.n2, ← h.n3]

/-- A bundle is of one sound replica. -/
theorem bundle_same {R T : Rep} (hR : Fit R) (hT : Fit T) : bundleB (recsOf 0 0 R) = bundleB (recsOf 0 0 T) ↔ Same R T := by
  constructor
  · intro h
    refine recsOf_inj (bundleB_inj (fun f hf => ⟨hR.ok ⟨by omega, by omega⟩ (by omega) (by omega) f hf, recsOf_zero R f hf⟩) (fun f hf => ⟨hT.ok ⟨by omega, by omega⟩ (by omega) (by omega) f hf, recsOf_zero T f hf⟩) h)
  · intro h; rw [h.recs]

/-- How many bytes a number has. -/
def bytesI : Nat → Int → Nat
  | 0, _ => 1
  | k + 1, n => if n < 128 then 1 else bytesI k (n / 128) + 1
theorem numI_bytes : ∀ (k : Nat) (n : Int), (numI k n).length = bytesI k n
  | 0, n => rfl
  | k + 1, n => by
    simp only [numI, bytesI]; split
    · rfl
    · simp [numI_bytes k (n / 128)]
theorem numB_bytes (n : Int) : (numB n).length = bytesI 9 n := by simp [numB, numI_bytes]

/-- How long the frames of records are. -/
def lenF (f : Fd) : Nat := (recF f).length + 7
def lenL (l : List Fd) : Nat := (l.map lenF).sum
theorem bundleB_length (l : List Fd) : (bundleB l).length = 8 + lenL l := by
  have : ∀ l : List Fd, (l.flatMap (fun f => frameB (recF f))).length = lenL l := by
    intro l; induction l with
    | nil => rfl
    | cons f l ih => simp only [List.flatMap_cons, List.length_append, ih, frameB_length, lenL, List.map_cons, List.sum_cons, lenF]
  unfold bundleB bodyB
  simp [fourI, this]; omega
theorem lenL_snoc (l : List Fd) (f : Fd) : lenL (l ++ [f]) = lenL l + lenF f := by simp [lenL]
theorem lenF_clock (c : Ck) : lenF (fdClock c) = 8 + bytesI 9 c.site + bytesI 9 c.count := by
  unfold lenF; rw [recF_clock, recClock, List.length_cons, List.length_append, numB_bytes, numB_bytes]; omega
theorem lenF_card (c : Cd) : lenF (fdCard c) = 9 + bytesI 9 c.id + bytesI 9 c.site + bytesI 9 c.count + c.text.size := by
  have : c.text.data.toList.length = c.text.size := Array.length_toList
  unfold lenF; rw [recF_card, recCard, List.length_cons, List.length_append, List.length_append, List.length_append, List.length_cons, numB_bytes, numB_bytes, numB_bytes]; omega
theorem lenF_edit (c : Ed) : lenF (fdEdit c) = 8 + bytesI 9 c.id + c.text.size := by
  have : c.text.data.toList.length = c.text.size := Array.length_toList
  unfold lenF; rw [recF_edit, recEdit, List.length_cons, List.length_append, numB_bytes]; omega
theorem lenF_head : lenF (fdHead 0 0) = 9 := by
  unfold lenF; rw [recF_head]; rfl
end Go.Proofs.Ytdjpkgaicmklmaa

/- Numbers read back: plain functions, and the reference's number, numbers, four, walked. -/
namespace Go.Proofs.Ytdjpkgaicmklmaa
open Go.RowKit

/-- Bytes are added up till the first below 128. -/
def rdAcc : Nat → Nat → Int → List UInt8 → Option (Int × Nat)
  | 0, _, _, _ => none
  | _ + 1, _, _, [] => none
  | k + 1, i, v, c :: s => if c.toNat < 128 then some (v + ((c.toNat % 128 : Nat) : Int) * 128 ^ i, i + 1) else rdAcc k (i + 1) (v + ((c.toNat % 128 : Nat) : Int) * 128 ^ i) s
/-- The number with which bytes begin, and how many bytes it has. -/
def numRd (s : List UInt8) : Option (Int × Nat) := match rdAcc 9 0 0 s with
  | some (v, n) => if numB v = s.take n then some (v, n) else none
  | none => none
def rdV (x : Option (Int × Nat)) : Value := match x with
  | some (v, n) => .tuple #[.int .i64 v, .int .i64 (n : Nat)]
  | none => .tuple #[.int .i64 0, .int .i64 0]

theorem str_extract (s : List UInt8) (a b : Nat) : (str s).extract a b = str ((s.drop a).take (b - a)) := by
  have : ((str s).extract a b).data = (str ((s.drop a).take (b - a))).data := by
    rw [ByteArray.data_extract]; simp [str]
  cases h : (str s).extract a b
  rw [h] at this
  simp only [str] at this ⊢
  rw [this]
theorem str_at (s : List UInt8) (k : Nat) (h : k < (str s).size) (h2 : k < s.length) : (str s)[k]'h = s[k] := rfl
theorem str_beq (a b : List UInt8) : ((str a).toList == (str b).toList) = (a == b) := by rw [str_toList, str_toList]

theorem pow128 (i : Nat) (h : i ≤ 8) : (128 : Int) ^ i ≤ 72057594037927936 ∧ 0 < (128 : Int) ^ i := by
  have : i = 0 ∨ i = 1 ∨ i = 2 ∨ i = 3 ∨ i = 4 ∨ i = 5 ∨ i = 6 ∨ i = 7 ∨ i = 8 := by omega
  rcases this with rfl | rfl | rfl | rfl | rfl | rfl | rfl | rfl | rfl <;> decide

set_option maxRecDepth 100000 in
set_option maxHeartbeats 4000000 in
theorem rnum_any (s : List UInt8) (w : World) (hs : s.length ≤ 9223372036854775807) :
    Calls Try.prog 166 #[.string (str s)] w fun e w' => e = .returned (rdV (numRd s)) ∧ Below w.heap.size w w' := by
  have hz := str_size s
  have HZ : Hid ((str s).size = s.length) := hz
  clear hz
  have hs2 : (str s).size ≤ 9223372036854775807 := by rw [HZ.out]; exact hs
  go_enter Try.func166, Try.ntmps166
  go_wp2
  go_loopw [4, 5, 6] (fun u q _ wr => ∃ (i : Nat) (v : Int), i ≤ 9 ∧ i ≤ (str s).size ∧ q = .int .i64 i ∧ u = .int .i64 v ∧ 0 ≤ v ∧ v < 128 ^ i ∧ rdAcc (9 - i) i v (s.drop i) = rdAcc 9 0 0 s ∧ wr = w) (fun _ q _ _ => 9 - (intOf q).toNat)
  case atStart => exact ⟨0, 0, by omega, by omega, rfl, rfl, by omega, by omega, rfl, rfl⟩
  case round =>
    obtain ⟨i, v, hi9, hi, rfl, rfl, v0, v1, hr, hw⟩ := hrel
    obtain rfl := hw.symm
    have HR : Hid (rdAcc (9 - i) i v (s.drop i) = rdAcc 9 0 0 s) := hr
    clear hr
    by_cases hlt : i < (str s).size
    · by_cases hl9 : i < 9
      · have hlt2 : i < s.length := by rw [← HZ.out]; exact hlt
        have hp := pow128 i (by omega)
        have HV : Hid (v < 128 ^ i) := v1
        clear v1
        have hb := (s[i]).toNat_lt
        have ev : wrap64 (v + wrap64 ((wrap64 (((str s)[i]'hlt).toNat : Int)).tmod 128 * 2 ^ (7 * i))) = v + ((s[i].toNat % 128 : Nat) : Int) * 128 ^ i := by
          have e0 : ((str s)[i]'hlt).toNat = s[i].toNat := rfl
          have e1 : (2 : Int) ^ (7 * i) = 128 ^ i := by rw [Int.pow_mul]; rfl
          rw [e0, e1]
          have e2 : wrap64 (s[i].toNat : Int) = (s[i].toNat : Int) := by unfold wrap64; omega
          rw [e2]
          have e3 : (s[i].toNat : Int).tmod 128 = ((s[i].toNat % 128 : Nat) : Int) := by rw [Int.tmod_eq_emod_of_nonneg (by omega)]; omega
          rw [e3]
          have h1 : ((s[i].toNat % 128 : Nat) : Int) * 128 ^ i ≤ 127 * 128 ^ i := Int.mul_le_mul_of_nonneg_right (by omega) (by omega)
          have h0 : 0 ≤ ((s[i].toNat % 128 : Nat) : Int) * 128 ^ i := Int.mul_nonneg (by omega) (by omega)
          have h2 := HV.out
          generalize ((s[i].toNat % 128 : Nat) : Int) * 128 ^ i = m at *
          generalize (128 : Int) ^ i = q at *
          unfold wrap64
          omega
        have hv' : 0 ≤ v + ((s[i].toNat % 128 : Nat) : Int) * 128 ^ i ∧ v + ((s[i].toNat % 128 : Nat) : Int) * 128 ^ i < 128 ^ (i + 1) ∧ v + ((s[i].toNat % 128 : Nat) : Int) * 128 ^ i ≤ 9223372036854775807 := by
          have h1 : ((s[i].toNat % 128 : Nat) : Int) * 128 ^ i ≤ 127 * 128 ^ i := Int.mul_le_mul_of_nonneg_right (by omega) (by omega)
          have h0 : 0 ≤ ((s[i].toNat % 128 : Nat) : Int) * 128 ^ i := Int.mul_nonneg (by omega) (by omega)
          have h2 := HV.out
          rw [Int.pow_succ]
          generalize ((s[i].toNat % 128 : Nat) : Int) * 128 ^ i = m at *
          generalize (128 : Int) ^ i = q at *
          omega
        have hstep : rdAcc 9 0 0 s = if s[i].toNat < 128 then some (v + ((s[i].toNat % 128 : Nat) : Int) * 128 ^ i, i + 1) else rdAcc (9 - (i + 1)) (i + 1) (v + ((s[i].toNat % 128 : Nat) : Int) * 128 ^ i) (s.drop (i + 1)) := by
          rw [← HR.out, List.drop_eq_getElem_cons hlt2, show 9 - i = (9 - (i + 1)) + 1 by omega]
          rfl
        have HS : Hid (rdAcc 9 0 0 s = if s[i].toNat < 128 then some (v + ((s[i].toNat % 128 : Nat) : Int) * 128 ^ i, i + 1) else rdAcc (9 - (i + 1)) (i + 1) (v + ((s[i].toNat % 128 : Nat) : Int) * 128 ^ i) (s.drop (i + 1))) := hstep
        have HE : Hid (wrap64 (v + wrap64 ((wrap64 (((str s)[i]'hlt).toNat : Int)).tmod 128 * 2 ^ (7 * i))) = v + ((s[i].toNat % 128 : Nat) : Int) * 128 ^ i) := ev
        have HE2 : Hid (wrap64 (v + wrap64 ((((str s)[i]'hlt).toNat : Int) % 128 * 2 ^ (7 * i))) = v + ((s[i].toNat % 128 : Nat) : Int) * 128 ^ i) := by
          have e0 : ((str s)[i]'hlt).toNat = s[i].toNat := rfl
          show _ = _
          rw [← ev, e0]
          have e2 : wrap64 (s[i].toNat : Int) = (s[i].toNat : Int) := by unfold wrap64; omega
          rw [e2, Int.tmod_eq_emod_of_nonneg (by omega)]
        clear hstep ev HR
        generalize hV : v + ((s[i].toNat % 128 : Nat) : Int) * 128 ^ i = V at *
        clear hV
        by_cases hc : ((str s)[i]'hlt).toNat < 128
        · have hacc : rdAcc 9 0 0 s = some (V, i + 1) := by rw [HS.out]; exact if_pos hc
          have HA : Hid (rdAcc 9 0 0 s = some (V, i + 1)) := hacc
          clear hacc HS
          go_wp2_with fail
          first | rw [HE.out] | rw [HE2.out]
          refine (rnumber_any V _ hv'.1 hv'.2.2).mono ?_
          rintro e w' ⟨rfl, hb'⟩
          have hx : (str s).extract 0 (i + 1) = str (s.take (i + 1)) := by rw [str_extract]; simp
          have hle : ((i : Int) + 1) ≤ ((str s).size : Int) := by omega
          by_cases hq : numB V = s.take (i + 1)
          · have hbq : ((str (numB V)).toList == (str (s.take (i + 1))).toList) = true := by rw [str_beq, hq]; simp
            have HN : Hid (numRd s = some (V, i + 1)) := by show _ = _; unfold numRd; rw [HA.out]; simp only; rw [if_pos hq]
            clear hq
            go_wp2_with fail
            go_ret2
            exact ⟨by rw [HN.out]; rfl, hb'⟩
          · have hbq : ((str (numB V)).toList == (str (s.take (i + 1))).toList) = false := by rw [str_beq, beq_eq_false_iff_ne]; exact hq
            have HN : Hid (numRd s = none) := by show _ = _; unfold numRd; rw [HA.out]; simp only; rw [if_neg hq]
            clear hq
            go_wp2_with fail
            go_ret2
            exact ⟨by rw [HN.out]; rfl, hb'⟩
        · have hacc : rdAcc (9 - (i + 1)) (i + 1) V (s.drop (i + 1)) = rdAcc 9 0 0 s := by rw [HS.out]; exact (if_neg hc).symm
          have HA : Hid (rdAcc (9 - (i + 1)) (i + 1) V (s.drop (i + 1)) = rdAcc 9 0 0 s) := hacc
          clear hacc HS
          go_wp2_with fail
          first | rw [HE.out] | rw [HE2.out]
          go_roundw
          case rel => exact ⟨i + 1, V, by omega, by omega, by go_num, rfl, hv'.1, hv'.2.1, HA.out, by first | rfl | trivial⟩
          case measure => simp [intOf]; omega
      · have HN : Hid (numRd s = none) := by
          have : 9 - i = 0 := by omega
          have h := HR.out
          rw [this] at h
          show _ = _; unfold numRd; rw [← h]; rfl
        go_wp2_with fail
        go_ret2
        exact ⟨by rw [HN.out]; rfl, Below.refl _ _⟩
    · have HN : Hid (numRd s = none) := by
        have h := HR.out
        rw [List.drop_of_length_le (by rw [← HZ.out]; omega)] at h
        have : rdAcc (9 - i) i v [] = none := by cases 9 - i <;> rfl
        show _ = _; unfold numRd; rw [← h, this]
      go_wp2_with fail
      go_ret2
      exact ⟨by rw [HN.out]; rfl, Below.refl _ _⟩

theorem rdAcc_le : ∀ (k i : Nat) (v : Int) (s : List UInt8) {v' : Int} {n : Nat}, rdAcc k i v s = some (v', n) → i < n ∧ n ≤ i + s.length
  | 0, _, _, _, _, _, h => by simp [rdAcc] at h
  | _ + 1, _, _, [], _, _, h => by simp [rdAcc] at h
  | k + 1, i, v, c :: s, v', n, h => by
    simp only [rdAcc] at h
    split at h
    · simp at h; simp; omega
    · have := rdAcc_le k (i + 1) _ s h; simp; omega
theorem rdAcc_num : ∀ (k i : Nat) (v : Int) (s : List UInt8) {v' : Int} {n : Nat}, rdAcc k i v s = some (v', n) → 0 ≤ v → v < 128 ^ i → i + k ≤ 9 → 0 ≤ v' ∧ v' < 128 ^ 9
  | 0, _, _, _, _, _, h, _, _, _ => by simp [rdAcc] at h
  | _ + 1, _, _, [], _, _, h, _, _, _ => by simp [rdAcc] at h
  | k + 1, i, v, c :: s, v', n, h, h0, h1, hk => by
    have hp := pow128 i (by omega)
    have m0 : 0 ≤ ((c.toNat % 128 : Nat) : Int) * 128 ^ i := Int.mul_nonneg (by omega) (by omega)
    have m1 : ((c.toNat % 128 : Nat) : Int) * 128 ^ i ≤ 127 * 128 ^ i := Int.mul_le_mul_of_nonneg_right (by omega) (by omega)
    simp only [rdAcc] at h
    split at h
    · simp at h
      obtain ⟨rfl, -⟩ := h
      simp only [Int.natCast_emod] at m0 m1
      have e9 : (128 : Int) ^ 9 = 9223372036854775808 := by decide
      rw [e9]
      have e : ((128 : Nat) : Int) = 128 := rfl
      simp only [e] at m0 m1
      generalize (128 : Int) ^ i = q at *
      omega
    · refine rdAcc_num k (i + 1) _ s h (by omega) ?_ (by omega)
      rw [Int.pow_succ]; omega
theorem numRd_le {s : List UInt8} {v : Int} {n : Nat} (h : numRd s = some (v, n)) : 0 < n ∧ n ≤ s.length ∧ Num v ∧ numB v = s.take n := by
  unfold numRd at h
  split at h
  · rename_i v' n' hr
    split at h
    · simp at h
      obtain ⟨rfl, rfl⟩ := h
      rename_i hq
      have h1 := rdAcc_le 9 0 0 s hr
      have h2 := rdAcc_num 9 0 0 s hr (by omega) (by decide) (by omega)
      have e9 : (128 : Int) ^ 9 = 9223372036854775808 := by decide
      rw [e9] at h2
      exact ⟨by omega, by omega, ⟨by omega, by omega⟩, hq⟩
    · cases h
  · cases h

/-- The k numbers with which bytes begin, and what is behind them. -/
def numsRd : Nat → List UInt8 → Option (List Int × List UInt8)
  | 0, s => some ([], s)
  | k + 1, s => match numRd s with
    | none => none
    | some (v, n) => match numsRd k (s.drop n) with
      | none => none
      | some (l, r) => some (v :: l, r)
def pre (a : List Int) (x : Option (List Int × List UInt8)) : Option (List Int × List UInt8) := x.map fun p => (a ++ p.1, p.2)
theorem numsRd_length : ∀ (k : Nat) (s : List UInt8) {l : List Int} {r : List UInt8}, numsRd k s = some (l, r) → l.length = k ∧ r.length ≤ s.length
  | 0, s, l, r, h => by simp [numsRd] at h; obtain ⟨rfl, rfl⟩ := h; simp
  | k + 1, s, l, r, h => by
    simp only [numsRd] at h
    split at h
    · cases h
    · split at h
      · cases h
      · rename_i hh
        simp at h
        obtain ⟨rfl, rfl⟩ := h
        have := numsRd_length k _ hh
        simp at this ⊢
        omega
theorem pre_some (a : List Int) (l : List Int) (r : List UInt8) : pre a (some (l, r)) = some (a ++ l, r) := rfl
theorem numsRd_step {a : List Int} {k : Nat} {s : List UInt8} {v : Int} {n : Nat} (h : numRd s = some (v, n)) : pre a (numsRd (k + 1) s) = pre (a ++ [v]) (numsRd k (s.drop n)) := by
  simp only [numsRd, h]
  cases numsRd k (s.drop n) with
  | none => rfl
  | some p => obtain ⟨l, r⟩ := p; simp [pre]
theorem numsRd_none {a : List Int} {k : Nat} {s : List UInt8} (h : numRd s = none) : pre a (numsRd (k + 1) s) = none := by
  simp only [numsRd, h]; rfl

/-- What numbers answers. -/
def NumsAns (s : List UInt8) (k : Nat) (w : World) (e : Ending) (w' : World) : Prop :=
  match numsRd k s with
  | none => e = .returned (.tuple #[.slice none 0 0, .string ⟨#[]⟩, .bool false])
  | some (l, r) => ∃ ad cap, e = .returned (.tuple #[.slice ad k cap, .string (str r), .bool true]) ∧ Vec w' w.heap.size 3 1 ad k cap (l.map (Value.int .i64))

set_option maxRecDepth 100000 in
set_option maxHeartbeats 4000000 in
theorem rnums_any (s : List UInt8) (k : Nat) (w : World) (hs : s.length ≤ 9223372036854775807) (hk : k ≤ 3) :
    Calls Try.prog 151 #[.string (str s), .int .i64 k] w fun e w' => NumsAns s k w e w' ∧ Below w.heap.size w w' := by
  go_enter Try.func151, Try.ntmps151
  go_wp2
  go_loopw [0, 7, 8, 9, 10] (fun u q i _ _ wr => ∃ (j : Nat) (t : List UInt8) (a : List Int) (ad : Option Addr) (cap : Nat), j ≤ k ∧ i = .int .i64 j ∧ u = .string (str t) ∧ t.length ≤ s.length ∧ q = .slice ad j cap ∧ pre a (numsRd (k - j) t) = numsRd k s ∧ Vec wr w.heap.size 3 1 ad j cap (a.map (Value.int .i64)) ∧ Below w.heap.size w wr) (fun _ _ i _ _ _ => k - (intOf i).toNat)
  case atStart => exact ⟨0, s, [], none, 0, Nat.zero_le _, rfl, rfl, Nat.le_refl _, rfl, by simp [pre], Vec.nil _ _ _ _, Below.refl _ _⟩
  case round =>
    obtain ⟨j, t, a, ad, cap, hj, rfl, rfl, ht, rfl, hp, hv, hb⟩ := hrel
    have HP : Hid (pre a (numsRd (k - j) t) = numsRd k s) := hp
    clear hp
    by_cases hlt : j < k
    · have ht2 : t.length ≤ 9223372036854775807 := by omega
      go_wp2_with fail
      refine (rnum_any t _ ht2).mono ?_
      rintro e w1 ⟨rfl, hb1⟩
      have hv1 := hv.keep hb1
      have hb2 : Below w.heap.size w w1 := hb.trans (hb1.mono hb.size)
      have hz := hb2.size
      clear hv hb hb1
      cases hn : numRd t with
      | none =>
        have HN : Hid (numsRd k s = none) := by
          show _ = _; rw [← HP.out, show k - j = (k - (j + 1)) + 1 by omega]; exact numsRd_none hn
        simp only [rdV]
        clear hn
        go_wp2_with fail
        go_ret3
        refine ⟨?_, hb2⟩
        unfold NumsAns; rw [HN.out]; rfl
      | some p =>
        obtain ⟨v, n⟩ := p
        obtain ⟨n0, n1, nv, -⟩ := numRd_le hn
        have HN : Hid (pre (a ++ [v]) (numsRd (k - (j + 1)) (t.drop n)) = numsRd k s) := by
          show _ = _; rw [← HP.out, show k - j = (k - (j + 1)) + 1 by omega]; exact (numsRd_step hn).symm
        simp only [rdV]
        clear hn
        have hnz : ((n : Int) == 0) = false := by simp; omega
        have hle : (n : Int) ≤ ((str t).size : Int) := by rw [str_size]; omega
        have hx : (str t).extract n (str t).size = str (t.drop n) := by rw [str_extract, str_size, List.take_of_length_le (by simp)]
        go_wp2_with (at_builtin; refine wpList_push (by rfl) _ _ 55 (by rfl) w.heap.size 3 1 8 (.int .i64 0) Try.underlying55 (by kernel_rfl) rfl (by decide) ad j cap _ (by rfl) (hv1.keep ((Below.refl _ _).alloc (Nat.le_refl _) _)) _ _ [.int .i64 v] (by rfl) rfl ?_ ?_ ?_ ?_ ?_ ?_; exact new_cells _ _ _; (simp [Value.oneCell']); (omega); (omega); (simp; omega); intro ad' cap' w' hv' hb' hs')
        have hb3 : Below w.heap.size w w' := (hb2.alloc hz _).trans hb'
        go_roundw
        case rel => exact ⟨j + 1, t.drop n, a ++ [v], ad', cap', by omega, by go_num, rfl, by simp; omega, rfl, HN.out, by simpa using hv', hb3⟩
        case measure => simp [intOf]; omega
    · have HN : Hid (numsRd k s = some (a, t)) := by
        show _ = _; rw [← HP.out, show k - j = 0 by omega]; simp [numsRd, pre]
      obtain rfl : j = k := by omega
      go_wp2_with fail
      go_ret3
      refine ⟨?_, hb⟩
      unfold NumsAns; rw [HN.out]
      exact ⟨ad, cap, rfl, hv⟩
end Go.Proofs.Ytdjpkgaicmklmaa

