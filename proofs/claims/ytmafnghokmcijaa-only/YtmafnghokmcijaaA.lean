/- What lies in memory: rows of records, and the plain data that they read as; searches by a bound. -/
import Derived.Test.YtmafnghokmcijaaRows
import Derived.WalkKit
import Derived.WalkSpells
import Derived.WalkLawsBesides
import Derived.Deep.QuietTactic
import Derived.BigQuiet
namespace Go.Proofs.Ytmafnghokmcijaa
open Go.RowKit

theorem ret_bool {a b : Bool} (h : a = b) : Ending.returned (.bool a) = .returned (.bool b) := by rw [h]
theorem ret_int {k : IntKind} {a b : Int} (h : a = b) : Ending.returned (.int k a) = .returned (.int k b) := by rw [h]

/-- Behind a call that makes memory alone all that was there reads as before. -/
theorem bcell {W w1 : World} (hb : Below W.heap.size W w1) : (∀ b o, b < W.heap.size → w1.cell? ⟨b, o, none⟩ = W.cell? ⟨b, o, none⟩) ∧ (∀ b o, b < W.heap.size → w1.frozen? ⟨b, o, none⟩ = W.frozen? ⟨b, o, none⟩) :=
  ⟨fun b o h => hb.cell (p := ⟨b, o, none⟩) h, fun b o h => hb.frozen (p := ⟨b, o, none⟩) h⟩

/-- Is there one below the bound? -/
def anyTo (p : Nat → Bool) : Nat → Bool
  | 0 => false
  | k + 1 => anyTo p k || p k

theorem anyTo_hit {p : Nat → Bool} {k : Nat} : ∀ {n : Nat}, k < n → p k = true → anyTo p n = true
  | 0, h, _ => by omega
  | n + 1, h, hp => by
    by_cases e : k = n
    · subst e; simp [anyTo, hp]
    · simp [anyTo, anyTo_hit (n := n) (by omega) hp]

theorem anyTo_iff {p : Nat → Bool} : ∀ {n : Nat}, anyTo p n = true ↔ ∃ k, k < n ∧ p k = true
  | 0 => by simp [anyTo]
  | n + 1 => by
    simp only [anyTo, Bool.or_eq_true, anyTo_iff (n := n)]
    constructor
    · rintro (⟨k, h, hp⟩ | h)
      · exact ⟨k, by omega, hp⟩
      · exact ⟨n, by omega, h⟩
    · rintro ⟨k, h, hp⟩
      by_cases e : k = n
      · subst e; exact Or.inr hp
      · exact Or.inl ⟨k, by omega, hp⟩

theorem anyTo_no {p : Nat → Bool} {k : Nat} (h : anyTo p k = false) (hp : p k = false) : anyTo p (k + 1) = false := by simp [anyTo, h, hp]

theorem anyTo_congr {p q : Nat → Bool} {n : Nat} (h : ∀ i, i < n → p i = q i) : anyTo p n = anyTo q n := by
  induction n with
  | zero => rfl
  | succ n ih => simp only [anyTo]; rw [ih (fun i hi => h i (by omega)), h n (by omega)]

/-- Clocks, cards, edits, as plain data. -/
structure Ck where
  site : Int
  count : Int
structure Cd where
  id : Int
  site : Int
  count : Int
  gone : Bool
  text : ByteArray
structure Ed where
  id : Int
  text : ByteArray

abbrev Ck.cells (x : Ck) : List Value := [.int .i64 x.site, .int .i64 x.count]
abbrev Cd.cells (x : Cd) : List Value := [.int .i64 x.id, .int .i64 x.site, .int .i64 x.count, .bool x.gone, .string x.text]
abbrev Ed.cells (x : Ed) : List Value := [.int .i64 x.id, .string x.text]

/-- At the address lie n elements of m cells each. -/
def Lies (w : World) (a : Option Addr) (n m : Nat) (f : Nat → List Value) : Prop :=
  n = 0 ∨ ∃ b off, a = some ⟨b, off, none⟩ ∧ b < w.heap.size ∧ ∀ i, i < n → ∀ j v, j < m → (f i)[j]? = some v → w.cell? ⟨b, off + i * m + j, none⟩ = some v

theorem Lies.below {w w' : World} {a : Option Addr} {n m : Nat} {f : Nat → List Value} (h : Lies w a n m f) (hb : Below w.heap.size w w') : Lies w' a n m f := by
  rcases h with h | ⟨b, off, ha, hlt, hc⟩
  · exact Or.inl h
  · refine Or.inr ⟨b, off, ha, Nat.lt_of_lt_of_le hlt hb.size, fun i hi j v hj hv => ?_⟩
    rw [hb.cell (p := ⟨b, off + i * m + j, none⟩) hlt]
    exact hc i hi j v hj hv

theorem Lies.at {w : World} {a : Option Addr} {n m : Nat} {f : Nat → List Value} (h : Lies w a n m f) {P : Program} {t : TypeId} (cap : Nat)
    (ht : P.underlying t = some (.slice (P.elem t))) (hs : (P.info? (P.elem t)).map (·.size) = some m) {k : Nat} (hk : k < n) :
    ∃ b o, b < w.heap.size ∧ (∀ w', (Instr.indexAt t (.slice a n cap) (.int .i64 (k : Int))).run P w' = .ok (.pointer (some ⟨b, o, none⟩)) w') ∧
      ∀ j v, j < m → (f k)[j]? = some v → w.cell? ⟨b, o + j, none⟩ = some v := by
  rcases h with h | ⟨b, off, rfl, hlt, hc⟩
  · omega
  · refine ⟨b, off + k * m, hlt, fun w' => ?_, fun j v hj hv => hc k hk j v hj hv⟩
    cases hq : P.info? (P.elem t) with
    | none => simp [hq] at hs
    | some i =>
      have hi : i.size = m := by simpa [hq] using hs
      rw [run_indexAt_slice w' t _ n cap .i64 (k : Int) ht, if_pos (by omega)]
      have hz : (sizeOf (P.elem t)).run P w' = .ok m w' := by simp [sizeOf, typeInfo, hq, hi]
      rw [hz]
      simp only [Result.andThen_ok, Addr.add, Int.toNat_natCast]
      by_cases h0 : k * m = 0
      · rw [if_pos h0, h0]; rfl
      · rw [if_neg h0]

theorem Lies.clock {w : World} {a : Option Addr} {n : Nat} {c : Nat → Ck} (h : Lies w a n 2 (fun i => (c i).cells)) (cap : Nat) {k : Nat} (hk : k < n) :
    ∃ b o, b < w.heap.size ∧ (∀ w', (Instr.indexAt 22 (.slice a n cap) (.int .i64 (k : Int))).run Try.prog w' = .ok (.pointer (some ⟨b, o, none⟩)) w') ∧
      w.cell? ⟨b, o, none⟩ = some (.int .i64 (c k).site) ∧ w.cell? ⟨b, o + 1, none⟩ = some (.int .i64 (c k).count) := by
  obtain ⟨b, o, hb, hi, hc⟩ := h.at cap (P := Try.prog) (t := 22) (by kernel_rfl) (by kernel_rfl) hk
  exact ⟨b, o, hb, hi, hc 0 _ (by omega) rfl, hc 1 _ (by omega) rfl⟩
theorem Lies.card {w : World} {a : Option Addr} {n : Nat} {c : Nat → Cd} (h : Lies w a n 5 (fun i => (c i).cells)) (cap : Nat) {k : Nat} (hk : k < n) :
    ∃ b o, b < w.heap.size ∧ (∀ w', (Instr.indexAt 23 (.slice a n cap) (.int .i64 (k : Int))).run Try.prog w' = .ok (.pointer (some ⟨b, o, none⟩)) w') ∧
      w.cell? ⟨b, o, none⟩ = some (.int .i64 (c k).id) ∧ w.cell? ⟨b, o + 1, none⟩ = some (.int .i64 (c k).site) ∧ w.cell? ⟨b, o + 2, none⟩ = some (.int .i64 (c k).count) ∧
      w.cell? ⟨b, o + 3, none⟩ = some (.bool (c k).gone) ∧ w.cell? ⟨b, o + 4, none⟩ = some (.string (c k).text) := by
  obtain ⟨b, o, hb, hi, hc⟩ := h.at cap (P := Try.prog) (t := 23) (by kernel_rfl) (by kernel_rfl) hk
  exact ⟨b, o, hb, hi, hc 0 _ (by omega) rfl, hc 1 _ (by omega) rfl, hc 2 _ (by omega) rfl, hc 3 _ (by omega) rfl, hc 4 _ (by omega) rfl⟩
theorem Lies.edit {w : World} {a : Option Addr} {n : Nat} {c : Nat → Ed} (h : Lies w a n 2 (fun i => (c i).cells)) (cap : Nat) {k : Nat} (hk : k < n) :
    ∃ b o, b < w.heap.size ∧ (∀ w', (Instr.indexAt 24 (.slice a n cap) (.int .i64 (k : Int))).run Try.prog w' = .ok (.pointer (some ⟨b, o, none⟩)) w') ∧
      w.cell? ⟨b, o, none⟩ = some (.int .i64 (c k).id) ∧ w.cell? ⟨b, o + 1, none⟩ = some (.string (c k).text) := by
  obtain ⟨b, o, hb, hi, hc⟩ := h.at cap (P := Try.prog) (t := 24) (by kernel_rfl) (by kernel_rfl) hk
  exact ⟨b, o, hb, hi, hc 0 _ (by omega) rfl, hc 1 _ (by omega) rfl⟩
end Go.Proofs.Ytmafnghokmcijaa
