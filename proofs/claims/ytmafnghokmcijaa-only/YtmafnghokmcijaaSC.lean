/- The replica that has seen some first writes: the plain function. -/
import Derived.Test.YtmafnghokmcijaaSB
import Derived.Test.YtmafnghokmcijaaV3
namespace Go.Proofs.Ytmafnghokmcijaa
open Go.RowKit

/-- A write, as plain data. -/
structure Wr where
  site : Int
  id : Int
  gone : Bool
  text : ByteArray
abbrev Wr.cells (x : Wr) : List Value := [.int .i64 x.site, .int .i64 x.id, .bool x.gone, .string x.text]

theorem Lies.wr {w : World} {a : Option Addr} {n : Nat} {c : Nat → Wr} (h : Lies w a n 4 (fun i => (c i).cells)) (cap : Nat) {k : Nat} (hk : k < n) :
    ∃ b o, b < w.heap.size ∧ (∀ w', (Instr.indexAt 44 (.slice a n cap) (.int .i64 (k : Int))).run Try.prog w' = .ok (.pointer (some ⟨b, o, none⟩)) w') ∧
      w.cell? ⟨b, o, none⟩ = some (.int .i64 (c k).site) ∧ w.cell? ⟨b, o + 1, none⟩ = some (.int .i64 (c k).id) ∧ w.cell? ⟨b, o + 2, none⟩ = some (.bool (c k).gone) ∧ w.cell? ⟨b, o + 3, none⟩ = some (.string (c k).text) := by
  obtain ⟨b, o, hb, hi, hc⟩ := h.at cap (P := Try.prog) (t := 44) (by kernel_rfl) (by kernel_rfl) hk
  exact ⟨b, o, hb, hi, hc 0 _ (by omega) rfl, hc 1 _ (by omega) rfl, hc 2 _ (by omega) rfl, hc 3 _ (by omega) rfl⟩

/-- What State is handed. -/
structure Seen where
  n : Nat
  w : Nat → Wr
  m : Nat
  f : Nat → Int

/-- The card of a write. -/
def cardOf (x : Wr) (k : Nat) (c : Int) : Cd := ⟨numOf x.id, siteL.getD k 0, c, x.gone, if x.gone then ⟨#[]⟩ else cutB x.text⟩
def siteIx (x : Wr) : Nat := (pickI x.site 8).toNat
/-- One write more: counts and cards. -/
def stepS (S : Seen) (st : List Int × List Cd) (x : Wr) : List Int × List Cd :=
  if seenI S.m S.f (siteIx x) ≤ st.1.getD (siteIx x) 0 then st
  else (st.1.set (siteIx x) (st.1.getD (siteIx x) 0 + 1), placedL st.2 (cardOf x (siteIx x) (st.1.getD (siteIx x) 0 + 1)))
def runS (S : Seen) : Nat → List Int × List Cd
  | 0 => (List.replicate 8 0, [])
  | i + 1 => stepS S (runS S i) (S.w i)

theorem runS_length (S : Seen) : ∀ i, (runS S i).1.length = 8
  | 0 => by simp [runS]
  | i + 1 => by
    have := runS_length S i
    simp only [runS, stepS]
    split
    · exact this
    · simpa using this
theorem runS_cards (S : Seen) : ∀ i, (runS S i).2.length ≤ i
  | 0 => by simp [runS]
  | i + 1 => by
    have := runS_cards S i
    simp only [runS, stepS]
    split
    · omega
    · have h := placedL_length (runS S i).2 (cardOf (S.w i) (siteIx (S.w i)) ((runS S i).1.getD (siteIx (S.w i)) 0 + 1)); simp only; omega
theorem siteIx_lt (x : Wr) : siteIx x < 8 := by
  have := pickI_lt x.site 8 (by decide); unfold siteIx; omega
theorem siteIx_eq (x : Wr) : pickI x.site 8 = (siteIx x : Int) := by
  have := pickI_lt x.site 8 (by decide); unfold siteIx; omega
theorem runS_counts (S : Seen) : ∀ i k, 0 ≤ (runS S i).1.getD k 0 ∧ (runS S i).1.getD k 0 ≤ i
  | 0, k => by
    have : (List.replicate 8 (0 : Int)).getD k 0 = 0 := by
      rw [List.getD, List.getElem?_replicate]; split <;> rfl
    simp only [runS, this]; omega
  | i + 1, k => by
    have h := runS_counts S i k
    simp only [runS, stepS]
    split
    · omega
    · simp only
      by_cases e : k = siteIx (S.w i)
      · subst e
        have hl : siteIx (S.w i) < (runS S i).1.length := by rw [runS_length]; exact siteIx_lt _
        have : ((runS S i).1.set (siteIx (S.w i)) ((runS S i).1.getD (siteIx (S.w i)) 0 + 1)).getD (siteIx (S.w i)) 0 = (runS S i).1.getD (siteIx (S.w i)) 0 + 1 := by
          simp [List.getD, hl]
        rw [this]; omega
      · have : ((runS S i).1.set (siteIx (S.w i)) ((runS S i).1.getD (siteIx (S.w i)) 0 + 1)).getD k 0 = (runS S i).1.getD k 0 := by
          simp only [List.getD]; rw [List.getElem?_set_ne (fun h => e h.symm)]
        rw [this]; omega

/-- The clocks of counts, the first k sites. -/
def clocksTo (cn : List Int) : Nat → List Ck
  | 0 => []
  | k + 1 => clocksTo cn k ++ (if 0 < cn.getD k 0 then [⟨siteL.getD k 0, cn.getD k 0⟩] else [])
def editsTo (ef : Nat → Wr) (k : Nat) : List Ed := (List.range k).map fun i => ⟨numOf (ef i).id, cutB (ef i).text⟩
theorem editsTo_succ (ef : Nat → Wr) (k : Nat) : editsTo ef (k + 1) = editsTo ef k ++ [⟨numOf (ef k).id, cutB (ef k).text⟩] := by simp [editsTo, List.range_succ]
theorem clocksTo_length (cn : List Int) : ∀ k, (clocksTo cn k).length ≤ k
  | 0 => by simp [clocksTo]
  | k + 1 => by
    have := clocksTo_length cn k
    simp only [clocksTo, List.length_append]; split <;> simp <;> omega

def ck0 : Ck := ⟨0, 0⟩
def ed0 : Ed := ⟨0, ⟨#[]⟩⟩
/-- A replica of lists. -/
def repOf (a : List Ck) (b : List Cd) (c : List Ed) : Rep := ⟨a.length, b.length, c.length, fun i => a.getD i ck0, fun i => b.getD i cd0, fun i => c.getD i ed0⟩
/-- The replica that has seen. -/
def stateR (S : Seen) (ne : Nat) (ef : Nat → Wr) : Rep := repOf (clocksTo (runS S (min S.n 40)).1 8) (runS S (min S.n 40)).2 (editsTo ef (min ne 8))
def kcells (l : List Ck) : List Value := (l.map Ck.cells).flatten
def ecells (l : List Ed) : List Value := (l.map Ed.cells).flatten
theorem kcells_append (a b : List Ck) : kcells (a ++ b) = kcells a ++ kcells b := by simp [kcells]
theorem ecells_append (a b : List Ed) : ecells (a ++ b) = ecells a ++ ecells b := by simp [ecells]
theorem kvec_lies {w : World} {B : Nat} {la : Option Addr} {n cap : Nat} {L : List Ck} (h : Vec w B 57 2 la n cap (kcells L)) (hn : L.length = n) : Lies w la n 2 (fun i => (L.getD i ck0).cells) := by
  refine h.lies (by intro r h; obtain ⟨y, _, rfl⟩ := List.mem_map.1 h; rfl) (by simpa using hn) _ fun i hi => ?_
  have hl : i < L.length := by omega
  simp [List.getD, hl]
theorem evec_lies {w : World} {B : Nat} {la : Option Addr} {n cap : Nat} {L : List Ed} (h : Vec w B 61 2 la n cap (ecells L)) (hn : L.length = n) : Lies w la n 2 (fun i => (L.getD i ed0).cells) := by
  refine h.lies (by intro r h; obtain ⟨y, _, rfl⟩ := List.mem_map.1 h; rfl) (by simpa using hn) _ fun i hi => ?_
  have hl : i < L.length := by omega
  simp [List.getD, hl]
end Go.Proofs.Ytmafnghokmcijaa
