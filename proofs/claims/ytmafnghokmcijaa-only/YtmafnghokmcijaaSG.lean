/- parcelkeep's bytes and same, walked. -/
import Derived.Test.YtmafnghokmcijaaSF
import Derived.Test.YtmafnghokmcijaaZ
import Derived.Test.YtmafnghokmcijaaG
namespace Go.Proofs.Ytmafnghokmcijaa
open Go.RowKit

theorem bytesI_le : ∀ (k : Nat) (n : Int), bytesI k n ≤ k + 1
  | 0, n => by simp [bytesI]
  | k + 1, n => by
    simp only [bytesI]; split
    · omega
    · have := bytesI_le k (n / 128); omega
theorem bytesI_small (k : Nat) (n : Int) (h : n < 128) : bytesI k n = 1 := by
  cases k with
  | zero => rfl
  | succ k => simp [bytesI, h]

set_option maxRecDepth 100000 in
set_option maxHeartbeats 2000000 in
theorem bytes_any (n : Int) (w : World) (hn : Num n) :
    Calls Try.prog 47 #[.int .i64 n] w fun e w' => e = .returned (.int .i64 (bytesI 9 n : Nat)) ∧ w' = w := by
  obtain ⟨h0, h1⟩ := hn
  go_enter Try.func47, Try.ntmps47
  go_wp2
  go_loopw [0, 3] (fun v u wr => ∃ (k N : Nat) (y : Int), v = .int .i64 y ∧ u = .int .i64 ((N : Int) + 1) ∧ 0 ≤ y ∧ y ≤ 9223372036854775807 ∧ y < 128 ^ (k + 1) ∧ N + bytesI k y = bytesI 9 n ∧ N + k = 9 ∧ wr = w) (fun v _ _ => (intOf v).toNat)
  case atStart => exact ⟨9, 0, n, rfl, rfl, h0, h1, by omega, by omega, rfl, rfl⟩
  case round =>
    obtain ⟨k, N, y, rfl, rfl, y0, y1, hy, hns, hk, hw⟩ := hrel
    obtain rfl := hw.symm
    have HY : Hid (y < 128 ^ (k + 1)) := hy
    have HN : Hid (N + bytesI k y = bytesI 9 n) := hns
    have HK : Hid (N + k = 9) := hk
    have hN : N ≤ 9 := by omega
    clear hy hns hk
    by_cases hlt : 127 < y
    · have hq : y.tdiv 128 = y / 128 := Int.tdiv_eq_ediv_of_nonneg (by omega)
      go_wp2_with fail
      have hk1 : ∃ j, k = j + 1 := by
        rcases k with _ | j
        · have := HY.out; simp at this; omega
        · exact ⟨j, rfl⟩
      obtain ⟨j, rfl⟩ := hk1
      have e1 : bytesI (j + 1) y = bytesI j (y / 128) + 1 := by simp only [bytesI]; rw [if_neg (by omega)]
      have e2 : (N + 1) + bytesI j (y / 128) = bytesI 9 n := by rw [← HN.out, e1]; omega
      have e3 : y / 128 < 128 ^ (j + 1) := by
        have h := HY.out
        rw [Int.pow_succ] at h
        exact Int.ediv_lt_of_lt_mul (by omega) h
      have e4 : N + 1 + j = 9 := by have := HK.out; omega
      go_roundw
      case rel => exact ⟨j, N + 1, y / 128, rfl, by go_num, by omega, by omega, e3, e2, e4, by trivial⟩
      case measure => simp [intOf]; omega
    · have hr : bytesI 9 n = N + 1 := by rw [← HN.out, bytesI_small k y (by omega)]
      have HR : Hid (bytesI 9 n = N + 1) := hr
      clear hr
      go_wp2_with fail
      go_ret
      exact ⟨by rw [HR.out]; push_cast; rfl, rfl⟩

/-- The two parameters' boxes. -/
abbrev BoxT (w : World) (R T : Rep) (a1 a2 a3 b1 b2 b3 : Option Addr) (k1 k2 k3 l1 l2 l3 : Nat) (wr : World) : Prop :=
  Below (w.heap.size + 2) ((w.alloc (.cells #[.slice a1 R.n1 k1, .slice a2 R.n2 k2, .slice a3 R.n3 k3] 26)).alloc (.cells #[.slice b1 T.n1 l1, .slice b2 T.n2 l2, .slice b3 T.n3 l3] 26)) wr
theorem BoxT.cells {w : World} {R T : Rep} {a1 a2 a3 b1 b2 b3 : Option Addr} {k1 k2 k3 l1 l2 l3 : Nat} {wr : World} (hb : BoxT w R T a1 a2 a3 b1 b2 b3 k1 k2 k3 l1 l2 l3 wr) :
    (wr.cell? ⟨w.heap.size, 0, none⟩ = some (.slice a1 R.n1 k1) ∧ wr.cell? ⟨w.heap.size, 1, none⟩ = some (.slice a2 R.n2 k2) ∧ wr.cell? ⟨w.heap.size, 2, none⟩ = some (.slice a3 R.n3 k3)) ∧
    (wr.cell? ⟨w.heap.size + 1, 0, none⟩ = some (.slice b1 T.n1 l1) ∧ wr.cell? ⟨w.heap.size + 1, 1, none⟩ = some (.slice b2 T.n2 l2) ∧ wr.cell? ⟨w.heap.size + 1, 2, none⟩ = some (.slice b3 T.n3 l3)) := by
  refine ⟨⟨?_, ?_, ?_⟩, ?_, ?_, ?_⟩
  · rw [hb.cell (p := ⟨w.heap.size, 0, none⟩) (by simp)]; simp
  · rw [hb.cell (p := ⟨w.heap.size, 1, none⟩) (by simp)]; simp
  · rw [hb.cell (p := ⟨w.heap.size, 2, none⟩) (by simp)]; simp
  · rw [hb.cell (p := ⟨w.heap.size + 1, 0, none⟩) (by simp)]; simp
  · rw [hb.cell (p := ⟨w.heap.size + 1, 1, none⟩) (by simp)]; simp
  · rw [hb.cell (p := ⟨w.heap.size + 1, 2, none⟩) (by simp)]; simp
theorem BoxT.old {w : World} {R T : Rep} {a1 a2 a3 b1 b2 b3 : Option Addr} {k1 k2 k3 l1 l2 l3 : Nat} {wr : World} (hb : BoxT w R T a1 a2 a3 b1 b2 b3 k1 k2 k3 l1 l2 l3 wr) : Below w.heap.size w wr :=
  (((Below.refl _ w).alloc (Nat.le_refl _) _).alloc (by simp) _).trans (hb.mono (by omega))

theorem ret_same {R T : Rep} {b : Bool} (h : b = true ↔ Same R T) : ∃ b', Ending.returned (.bool b) = .returned (.bool b') ∧ (b' = true ↔ Same R T) := ⟨b, rfl, h⟩
theorem not_same {R T : Rep} (h : ¬ Same R T) : (false = true ↔ Same R T) := ⟨fun e => (by cases e), fun e => absurd e h⟩

theorem ba_beq {x y : ByteArray} (h : ¬ x = y) : (x == y) = false := by
  cases x with | mk a => cases y with | mk b =>
  have : ¬ a = b := fun e => h (by rw [e])
  show (a == b) = false
  rw [beq_eq_false_iff_ne]; exact this
theorem bl_beq {x y : ByteArray} (h : ¬ x = y) : (x.toList == y.toList) = false := by
  rw [← beq_toListBytes]; exact ba_beq h
theorem ck_ne {x y : Ck} (h : ¬ x = y) : ¬ x.site = y.site ∨ (x.site = y.site ∧ ¬ x.count = y.count) := by
  by_cases h1 : x.site = y.site
  · exact Or.inr ⟨h1, fun h2 => h (by cases x; cases y; simp at h1 h2; simp [h1, h2])⟩
  · exact Or.inl h1
theorem cd_ne {x y : Cd} (h : ¬ x = y) : ¬ x.id = y.id ∨ (x.id = y.id ∧ ¬ x.site = y.site) ∨ (x.id = y.id ∧ x.site = y.site ∧ ¬ x.count = y.count) ∨ (x.id = y.id ∧ x.site = y.site ∧ x.count = y.count ∧ ¬ x.gone = y.gone) ∨ (x.id = y.id ∧ x.site = y.site ∧ x.count = y.count ∧ x.gone = y.gone ∧ ¬ x.text = y.text) := by
  by_cases h1 : x.id = y.id
  · by_cases h2 : x.site = y.site
    · by_cases h3 : x.count = y.count
      · by_cases h4 : x.gone = y.gone
        · exact Or.inr (Or.inr (Or.inr (Or.inr ⟨h1, h2, h3, h4, fun h5 => h (by cases x; cases y; simp at h1 h2 h3 h4 h5; simp [h1, h2, h3, h4, h5])⟩)))
        · exact Or.inr (Or.inr (Or.inr (Or.inl ⟨h1, h2, h3, h4⟩)))
      · exact Or.inr (Or.inr (Or.inl ⟨h1, h2, h3⟩))
    · exact Or.inr (Or.inl ⟨h1, h2⟩)
  · exact Or.inl h1
theorem ed_ne {x y : Ed} (h : ¬ x = y) : ¬ x.id = y.id ∨ (x.id = y.id ∧ ¬ x.text = y.text) := by
  by_cases h1 : x.id = y.id
  · exact Or.inr ⟨h1, fun h2 => h (by cases x; cases y; simp at h1 h2; simp [h1, h2])⟩
  · exact Or.inl h1

set_option maxRecDepth 100000 in
set_option maxHeartbeats 4000000 in
theorem same_len (R : Rep) (tc : Nat → Ck) (td : Nat → Cd) (te : Nat → Ed) (a1 a2 a3 b1 b2 b3 : Option Addr) (k1 k2 k3 l1 l2 l3 : Nat) (w : World) (hA : Has w R a1 a2 a3) (hB : Has w ⟨R.n1, R.n2, R.n3, tc, td, te⟩ b1 b2 b3) :
    Calls Try.prog 21 #[repV R a1 a2 a3 k1 k2 k3, repV R b1 b2 b3 l1 l2 l3] w fun e w' => ∃ b, (e = .returned (.bool b) ∧ (b = true ↔ Same R ⟨R.n1, R.n2, R.n3, tc, td, te⟩)) ∧ Below w.heap.size w w' := by
  have y1 := hA.b1; have y2 := hA.b2; have y3 := hA.b3
  go_enter Try.func21, Try.ntmps21
  go_wp2
  go_loopw [5] (fun i wr => ∃ k : Nat, k ≤ R.n1 ∧ i = .int .i64 k ∧ (∀ j, j < k → R.c j = tc j) ∧ BoxS w R a1 a2 a3 b1 b2 b3 k1 k2 k3 l1 l2 l3 wr) (fun i _ => R.n1 - (intOf i).toNat)
  case atStart => exact ⟨0, Nat.zero_le _, rfl, fun j h => by omega, Below.refl _ _⟩
  case round =>
    obtain ⟨k, hk, rfl, hj, hb⟩ := hrel
    have HJ1 : Hid (∀ j, j < k → R.c j = tc j) := hj
    clear hj
    obtain ⟨⟨x1, x2, x3⟩, z1, z2, z3⟩ := hb.cells
    by_cases hlt : k < R.n1
    · obtain ⟨b, o, hbl, hix, p1, p2⟩ := (hA.below hb.old).l1.clock k1 hlt
      obtain ⟨b', o', hbl', hix', q1, q2⟩ := (hB.below hb.old).l1.clock l1 hlt
      by_cases he : R.c k = tc k
      · have HE : Hid (R.c k = tc k) := he
        rw [he] at p1 p2
        clear he
        go_wp2
        go_quiet (fail)
        go_wp2
        go_roundw
        case rel => exact ⟨k + 1, by omega, by go_num, fun j h => by rcases Nat.lt_succ_iff_lt_or_eq.1 h with h | rfl; exact HJ1.out j h; exact HE.out, below_drewN hb _⟩
        case measure => simp [intOf]; omega
      · have HS : Hid (¬ Same R ⟨R.n1, R.n2, R.n3, tc, td, te⟩) := fun h => he (h.c k hlt)
        have hne := ck_ne he
        clear he
        rcases hne with hne | ⟨r1, hne⟩
        · go_wp2
          go_quiet (fail)
          go_wp2
          go_ret
          exact ⟨_, ⟨rfl, not_same HS.out⟩, BoxS.old (below_drewN hb _)⟩
        · rw [r1] at p1
          clear r1
          go_wp2
          go_quiet (fail)
          go_wp2
          go_ret
          exact ⟨_, ⟨rfl, not_same HS.out⟩, BoxS.old (below_drewN hb _)⟩
    · have E1 : Hid (k = R.n1) := by show _ = _; omega
      have J1 : Hid (∀ j, j < R.n1 → R.c j = tc j) := fun j h => HJ1.out j (by have := E1.out; omega)
      clear HJ1 E1
      go_wp2
      go_loopw [6] (fun i wr => ∃ k : Nat, k ≤ R.n2 ∧ i = .int .i64 k ∧ (∀ j, j < k → R.d j = td j) ∧ BoxS w R a1 a2 a3 b1 b2 b3 k1 k2 k3 l1 l2 l3 wr) (fun i _ => R.n2 - (intOf i).toNat)
      case atStart => exact ⟨0, Nat.zero_le _, rfl, fun j h => by omega, hb⟩
      case round =>
        clear x1 x2 x3 z1 z2 z3 hb hk hlt
        obtain ⟨k, hk, rfl, hj, hb⟩ := hrel
        have HJ2 : Hid (∀ j, j < k → R.d j = td j) := hj
        clear hj
        obtain ⟨⟨x1, x2, x3⟩, z1, z2, z3⟩ := hb.cells
        by_cases hlt : k < R.n2
        · obtain ⟨b, o, hbl, hix, p1, p2, p3, p4, p5⟩ := (hA.below hb.old).l2.card k2 hlt
          obtain ⟨b', o', hbl', hix', q1, q2, q3, q4, q5⟩ := (hB.below hb.old).l2.card l2 hlt
          by_cases he : R.d k = td k
          · have HE : Hid (R.d k = td k) := he
            rw [he] at p1 p2 p3 p4 p5
            clear he
            go_wp2
            go_quiet (fail)
            go_wp2
            go_roundw
            case rel => exact ⟨k + 1, by omega, by go_num, fun j h => by rcases Nat.lt_succ_iff_lt_or_eq.1 h with h | rfl; exact HJ2.out j h; exact HE.out, below_drewN hb _⟩
            case measure => simp [intOf]; omega
          · have HS : Hid (¬ Same R ⟨R.n1, R.n2, R.n3, tc, td, te⟩) := fun h => he (h.d k hlt)
            have hne := cd_ne he
            clear he
            rcases hne with hne | ⟨r1, hne⟩ | ⟨r1, r2, hne⟩ | ⟨r1, r2, r3, hne⟩ | ⟨r1, r2, r3, r4, hne⟩
            · go_wp2
              go_quiet (fail)
              go_wp2
              go_ret
              exact ⟨_, ⟨rfl, not_same HS.out⟩, BoxS.old (below_drewN hb _)⟩
            · rw [r1] at p1
              clear r1
              go_wp2
              go_quiet (fail)
              go_wp2
              go_ret
              exact ⟨_, ⟨rfl, not_same HS.out⟩, BoxS.old (below_drewN hb _)⟩
            · rw [r1] at p1
              clear r1
              rw [r2] at p2
              clear r2
              go_wp2
              go_quiet (fail)
              go_wp2
              go_ret
              exact ⟨_, ⟨rfl, not_same HS.out⟩, BoxS.old (below_drewN hb _)⟩
            · rw [r1] at p1
              clear r1
              rw [r2] at p2
              clear r2
              rw [r3] at p3
              clear r3
              go_wp2
              go_quiet (fail)
              go_wp2
              go_ret
              exact ⟨_, ⟨rfl, not_same HS.out⟩, BoxS.old (below_drewN hb _)⟩
            · rw [r1] at p1
              clear r1
              rw [r2] at p2
              clear r2
              rw [r3] at p3
              clear r3
              rw [r4] at p4
              clear r4
              have hnb := ba_beq hne
              have hnl := bl_beq hne
              clear hne
              go_wp2
              go_quiet (fail)
              go_wp2
              go_ret
              exact ⟨_, ⟨rfl, not_same HS.out⟩, BoxS.old (below_drewN hb _)⟩
        · have E2 : Hid (k = R.n2) := by show _ = _; omega
          have J2 : Hid (∀ j, j < R.n2 → R.d j = td j) := fun j h => HJ2.out j (by have := E2.out; omega)
          clear HJ2 E2
          go_wp2
          go_loopw [7] (fun i wr => ∃ k : Nat, k ≤ R.n3 ∧ i = .int .i64 k ∧ (∀ j, j < k → R.e j = te j) ∧ BoxS w R a1 a2 a3 b1 b2 b3 k1 k2 k3 l1 l2 l3 wr) (fun i _ => R.n3 - (intOf i).toNat)
          case atStart => exact ⟨0, Nat.zero_le _, rfl, fun j h => by omega, hb⟩
          case round =>
            clear x1 x2 x3 z1 z2 z3 hb hk hlt
            obtain ⟨k, hk, rfl, hj, hb⟩ := hrel
            have HJ3 : Hid (∀ j, j < k → R.e j = te j) := hj
            clear hj
            obtain ⟨⟨x1, x2, x3⟩, z1, z2, z3⟩ := hb.cells
            by_cases hlt : k < R.n3
            · obtain ⟨b, o, hbl, hix, p1, p2⟩ := (hA.below hb.old).l3.edit k3 hlt
              obtain ⟨b', o', hbl', hix', q1, q2⟩ := (hB.below hb.old).l3.edit l3 hlt
              by_cases he : R.e k = te k
              · have HE : Hid (R.e k = te k) := he
                rw [he] at p1 p2
                clear he
                go_wp2
                go_quiet (fail)
                go_wp2
                go_roundw
                case rel => exact ⟨k + 1, by omega, by go_num, fun j h => by rcases Nat.lt_succ_iff_lt_or_eq.1 h with h | rfl; exact HJ3.out j h; exact HE.out, below_drewN hb _⟩
                case measure => simp [intOf]; omega
              · have HS : Hid (¬ Same R ⟨R.n1, R.n2, R.n3, tc, td, te⟩) := fun h => he (h.e k hlt)
                have hne := ed_ne he
                clear he
                rcases hne with hne | ⟨r1, hne⟩
                · go_wp2
                  go_quiet (fail)
                  go_wp2
                  go_ret
                  exact ⟨_, ⟨rfl, not_same HS.out⟩, BoxS.old (below_drewN hb _)⟩
                · rw [r1] at p1
                  clear r1
                  have hnb := ba_beq hne
                  have hnl := bl_beq hne
                  clear hne
                  go_wp2
                  go_quiet (fail)
                  go_wp2
                  go_ret
                  exact ⟨_, ⟨rfl, not_same HS.out⟩, BoxS.old (below_drewN hb _)⟩
            · have E3 : Hid (k = R.n3) := by show _ = _; omega
              have HS : Hid (Same R ⟨R.n1, R.n2, R.n3, tc, td, te⟩) := ⟨rfl, rfl, rfl, J1.out, J2.out, fun j h => HJ3.out j (by have := E3.out; omega)⟩
              go_wp2
              go_ret
              exact ⟨_, ⟨rfl, ⟨fun _ => HS.out, fun _ => rfl⟩⟩, hb.old⟩

set_option maxRecDepth 100000 in
set_option maxHeartbeats 4000000 in
theorem same_any (R T : Rep) (a1 a2 a3 b1 b2 b3 : Option Addr) (k1 k2 k3 l1 l2 l3 : Nat) (w : World) (hA : Has w R a1 a2 a3) (hB : Has w T b1 b2 b3) :
    Calls Try.prog 21 #[repV R a1 a2 a3 k1 k2 k3, repV T b1 b2 b3 l1 l2 l3] w fun e w' => ∃ b, (e = .returned (.bool b) ∧ (b = true ↔ Same R T)) ∧ Below w.heap.size w w' := by
  have y1 := hA.b1; have y2 := hA.b2; have y3 := hA.b3
  have u1 := hB.b1; have u2 := hB.b2; have u3 := hB.b3
  have h0 : BoxT w R T a1 a2 a3 b1 b2 b3 k1 k2 k3 l1 l2 l3 ((w.alloc (.cells #[.slice a1 R.n1 k1, .slice a2 R.n2 k2, .slice a3 R.n3 k3] 26)).alloc (.cells #[.slice b1 T.n1 l1, .slice b2 T.n2 l2, .slice b3 T.n3 l3] 26)) := Below.refl _ _
  have HO : Hid (Below w.heap.size w ((w.alloc (.cells #[.slice a1 R.n1 k1, .slice a2 R.n2 k2, .slice a3 R.n3 k3] 26)).alloc (.cells #[.slice b1 T.n1 l1, .slice b2 T.n2 l2, .slice b3 T.n3 l3] 26))) := h0.old
  clear h0
  by_cases n1 : R.n1 = T.n1
  case neg =>
    have HS : Hid (¬ Same R T) := fun h => n1 h.n1
    have nb : ((R.n1 : Int) != (T.n1 : Int)) = true := by simp; omega
    go_enter Try.func21, Try.ntmps21
    go_wp2
    go_ret
    exact ⟨_, ⟨rfl, not_same HS.out⟩, HO.out⟩
  by_cases n2 : R.n2 = T.n2
  case neg =>
    have HS : Hid (¬ Same R T) := fun h => n2 h.n2
    have nb : ((R.n2 : Int) != (T.n2 : Int)) = true := by simp; omega
    have na : ((R.n1 : Int) != (T.n1 : Int)) = false := by simp; omega
    clear n1
    go_enter Try.func21, Try.ntmps21
    go_wp2
    go_ret
    exact ⟨_, ⟨rfl, not_same HS.out⟩, HO.out⟩
  by_cases n3 : R.n3 = T.n3
  case neg =>
    have HS : Hid (¬ Same R T) := fun h => n3 h.n3
    have nb : ((R.n3 : Int) != (T.n3 : Int)) = true := by simp; omega
    have na : ((R.n1 : Int) != (T.n1 : Int)) = false := by simp; omega
    have nc : ((R.n2 : Int) != (T.n2 : Int)) = false := by simp; omega
    clear n1 n2
    go_enter Try.func21, Try.ntmps21
    go_wp2
    go_ret
    exact ⟨_, ⟨rfl, not_same HS.out⟩, HO.out⟩
  obtain ⟨m1, m2, m3, tc, td, te⟩ := T
  have n1 : R.n1 = m1 := n1
  have n2 : R.n2 = m2 := n2
  have n3 : R.n3 = m3 := n3
  subst n1 n2 n3
  exact same_len R tc td te a1 a2 a3 b1 b2 b3 k1 k2 k3 l1 l2 l3 w hA hB
end Go.Proofs.Ytmafnghokmcijaa
