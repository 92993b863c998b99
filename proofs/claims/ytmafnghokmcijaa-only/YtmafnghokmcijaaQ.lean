/- Records as bytes: the program's Head, Clock, Card, Edit; the reference's Number; walked. -/
import Derived.Test.YtmafnghokmcijaaM
namespace Go.Proofs.Ytmafnghokmcijaa
open Go.RowKit

theorem mk_append_str (l b : List UInt8) : (ByteArray.mk l.toArray) ++ str b = str (l ++ b) := str_append l b
theorem str_append_mk (l b : List UInt8) : str b ++ (ByteArray.mk l.toArray) = str (b ++ l) := str_append b l
attribute [local go_sem] str_size str_append mk_append_str str_append_mk

theorem numB_length (n : Int) : (numB n).length ≤ 10 := by
  unfold numB; rw [List.length_map]; exact numI_length 9 n

set_option maxRecDepth 100000 in
set_option maxHeartbeats 1000000 in
theorem rnumber_k : ∀ (k : Nat), k ≤ 9 → ∀ (n : Int) (w : World), 0 ≤ n → n ≤ 9223372036854775807 → n < 128 ^ (k + 1) →
    Calls Try.prog 97 #[.int .i64 n] w fun e w' => e = .returned (.string (str ((numI k n).map byt))) ∧ Below w.heap.size w w' := by
  intro k
  induction k with
  | zero =>
    intro _ n w h0 h1 hk
    have h2 : n < 128 := by simpa using hk
    clear hk
    go_enter Try.func97, Try.ntmps97
    go_wp2_with (refine wpList_toString (by rfl) 110 9 5 _ (by rfl) Try.underlying110 Try.underlying5 Try.underlying9 _ _ _ (by rfl) [n] rfl ?_ ?_; exact new_cells _ _ _)
    go_ret
    exact ⟨rfl, (Below.refl _ _).alloc (Nat.le_refl _) _⟩
  | succ k ih =>
    intro hk9 n w h0 h1 hk
    have IH : Hid (∀ (n : Int) (w : World), 0 ≤ n → n ≤ 9223372036854775807 → n < 128 ^ (k + 1) →
      Calls Try.prog 97 #[.int .i64 n] w fun e w' => e = .returned (.string (str ((numI k n).map byt))) ∧ Below w.heap.size w w') := ih (by omega)
    clear ih
    by_cases h2 : n < 128
    · rw [numI_small _ _ h2]
      clear hk
      go_enter Try.func97, Try.ntmps97
      go_wp2_with (refine wpList_toString (by rfl) 110 9 5 _ (by rfl) Try.underlying110 Try.underlying5 Try.underlying9 _ _ _ (by rfl) [n] rfl ?_ ?_; exact new_cells _ _ _)
      go_ret
      exact ⟨rfl, (Below.refl _ _).alloc (Nat.le_refl _) _⟩
    · have hd : n / 128 < 128 ^ (k + 1) := by
        rw [Int.pow_succ] at hk
        exact Int.ediv_lt_of_lt_mul (by omega) hk
      have HD : Hid (n / 128 < 128 ^ (k + 1)) := hd
      have hl : ((numI k (n / 128)).map byt).length ≤ k + 1 := by rw [List.length_map]; exact numI_length _ _
      clear hk hd
      have hfin : numI (k + 1) n = (n % 128 + 128) :: numI k (n / 128) := by simp only [numI]; rw [if_neg h2]
      have HF : Hid (numI (k + 1) n = (n % 128 + 128) :: numI k (n / 128)) := hfin
      clear hfin
      go_enter Try.func97, Try.ntmps97
      go_wp2_with fail
      refine (IH.out (n / 128) _ (by omega) (by omega) HD.out).mono ?_
      rintro e w1 ⟨rfl, hb⟩
      have HL : Hid (numI k (n / 128) = numI k (n / 128)) := rfl
      generalize hT : (numI k (n / 128)).map byt = tl at *
      have HT : Hid ((numI k (n / 128)).map byt = tl) := hT
      clear hT HL
      go_wp2_with (refine wpList_toString (by rfl) 110 9 5 _ (by rfl) Try.underlying110 Try.underlying5 Try.underlying9 _ _ _ (by rfl) [n % 128 + 128] rfl ?_ ?_; exact new_cells _ _ _)
      go_ret
      exact ⟨ret_str (by rw [HF.out]; simp only [List.map_cons]; rw [HT.out]), hb.alloc hb.size _⟩

theorem rnumber_any (n : Int) (w : World) (h0 : 0 ≤ n) (h1 : n ≤ 9223372036854775807) :
    Calls Try.prog 97 #[.int .i64 n] w fun e w' => e = .returned (.string (str (numB n))) ∧ Below w.heap.size w w' :=
  rnumber_k 9 (Nat.le_refl _) n w h0 h1 (by omega)

/-- A box, behind whatever was laid since. -/
theorem boxN {w wr : World} {cs : Array Value} {t : TypeId} (hb : Below (w.heap.size + 1) (w.alloc (.cells cs t)) wr) (j : Nat) : wr.cell? ⟨w.heap.size, j, none⟩ = cs[j]? := by
  rw [hb.cell (p := ⟨w.heap.size, j, none⟩) (by simp), World.cell?_alloc_new]
theorem box_old {w wr : World} {o : Obj} (hb : Below (w.heap.size + 1) (w.alloc o) wr) : Below w.heap.size w wr :=
  ((Below.refl _ _).alloc (Nat.le_refl _) o).trans (hb.mono (by omega))
theorem box_step {w wr w1 : World} {o : Obj} (hb : Below (w.heap.size + 1) (w.alloc o) wr) (h : Below wr.heap.size wr w1) : Below (w.heap.size + 1) (w.alloc o) w1 :=
  hb.trans (h.mono (by have := hb.size; simpa using this))

def recHead (seq base : Int) : List UInt8 := 4 :: (numB seq ++ if seq = 0 then [] else fourI base)
def recClock (c : Ck) : List UInt8 := 1 :: (numB c.site ++ numB c.count)
def recCard (c : Cd) : List UInt8 := 2 :: (numB c.id ++ (numB c.site ++ (numB c.count ++ ((if c.gone then 1 else 0) :: c.text.data.toList))))
def recEdit (c : Ed) : List UInt8 := 3 :: (numB c.id ++ c.text.data.toList)

/-- A number that may be written. -/
def Num (n : Int) : Prop := 0 ≤ n ∧ n ≤ 9223372036854775807

set_option maxRecDepth 100000 in
set_option maxHeartbeats 1000000 in
theorem clock_any (c : Ck) (w : World) (h1 : Num c.site) (h2 : Num c.count) :
    Calls Try.prog 78 #[.agg #[.int .i64 c.site, .int .i64 c.count]] w fun e w' => e = .returned (.string (str (recClock c))) ∧ Below w.heap.size w w' := by
  have hb0 : Below (w.heap.size + 1) (w.alloc (.cells #[.int .i64 c.site, .int .i64 c.count] 57)) (w.alloc (.cells #[.int .i64 c.site, .int .i64 c.count] 57)) := Below.refl _ _
  have l1 := numB_length c.site
  have l2 := numB_length c.count
  go_enter Try.func78, Try.ntmps78
  go_wp2_with fail
  refine (oneByte_any 1 _ (by decide) (by decide)).mono ?_
  rintro e w1 ⟨rfl, hh⟩
  have hb1 := box_step hb0 hh
  clear hh hb0
  have x0 : w1.cell? ⟨w.heap.size, 0, none⟩ = some (.int .i64 c.site) := boxN hb1 0
  go_wp2_with fail
  refine (number_any c.site _ h1.1 h1.2).mono ?_
  rintro e w2 ⟨rfl, hh⟩
  have hb2 := box_step hb1 hh
  clear hh hb1 x0
  have x1 : w2.cell? ⟨w.heap.size, 1, none⟩ = some (.int .i64 c.count) := boxN hb2 1
  go_wp2_with fail
  refine (number_any c.count _ h2.1 h2.2).mono ?_
  rintro e w3 ⟨rfl, hh⟩
  have hb3 := box_step hb2 hh
  clear hh hb2 x1
  have E : Hid ([byt 1] ++ (numB c.site ++ numB c.count) = recClock c) := rfl
  generalize numB c.site = n1 at *
  generalize numB c.count = n2 at *
  go_wp2_with fail
  go_ret
  exact ⟨ret_str (by rw [← E.out]; simp), box_old hb3⟩

set_option maxRecDepth 100000 in
set_option maxHeartbeats 1000000 in
theorem edit_any (c : Ed) (w : World) (h1 : Num c.id) (ht : c.text.size ≤ 1000000) :
    Calls Try.prog 80 #[.agg #[.int .i64 c.id, .string c.text]] w fun e w' => e = .returned (.string (str (recEdit c))) ∧ Below w.heap.size w w' := by
  obtain ⟨t, htt⟩ : ∃ t, c.text = str t := ⟨c.text.data.toList, (str_data _).symm⟩
  rw [htt] at ht ⊢
  rw [str_size] at ht
  have E0 : Hid ([byt 3] ++ (numB c.id ++ t) = recEdit c) := by show _ = _; unfold recEdit; rw [htt]; rfl
  clear htt
  have hb0 : Below (w.heap.size + 1) (w.alloc (.cells #[.int .i64 c.id, .string (str t)] 61)) (w.alloc (.cells #[.int .i64 c.id, .string (str t)] 61)) := Below.refl _ _
  have l1 := numB_length c.id
  go_enter Try.func80, Try.ntmps80
  go_wp2_with fail
  refine (oneByte_any 3 _ (by decide) (by decide)).mono ?_
  rintro e w1 ⟨rfl, hh⟩
  have hb1 := box_step hb0 hh
  clear hh hb0
  have x0 : w1.cell? ⟨w.heap.size, 0, none⟩ = some (.int .i64 c.id) := boxN hb1 0
  go_wp2_with fail
  refine (number_any c.id _ h1.1 h1.2).mono ?_
  rintro e w2 ⟨rfl, hh⟩
  have hb2 := box_step hb1 hh
  clear hh hb1 x0
  have x1 : w2.cell? ⟨w.heap.size, 1, none⟩ = some (.string (str t)) := boxN hb2 1
  generalize numB c.id = n1 at *
  go_wp2_with fail
  go_ret
  exact ⟨ret_str (by rw [← E0.out]; simp), box_old hb2⟩

set_option maxRecDepth 100000 in
set_option maxHeartbeats 1000000 in
theorem card_any (c : Cd) (w : World) (h1 : Num c.id) (h2 : Num c.site) (h3 : Num c.count) (ht : c.text.size ≤ 1000000) :
    Calls Try.prog 79 #[.agg #[.int .i64 c.id, .int .i64 c.site, .int .i64 c.count, .bool c.gone, .string c.text]] w fun e w' => e = .returned (.string (str (recCard c))) ∧ Below w.heap.size w w' := by
  obtain ⟨t, htt⟩ : ∃ t, c.text = str t := ⟨c.text.data.toList, (str_data _).symm⟩
  rw [htt] at ht ⊢
  rw [str_size] at ht
  have E0 : Hid ([byt 2] ++ (numB c.id ++ (numB c.site ++ (numB c.count ++ ([if c.gone then 1 else 0] ++ t)))) = recCard c) := by show _ = _; unfold recCard; rw [htt]; rfl
  clear htt
  have hb0 : Below (w.heap.size + 1) (w.alloc (.cells #[.int .i64 c.id, .int .i64 c.site, .int .i64 c.count, .bool c.gone, .string (str t)] 59)) (w.alloc (.cells #[.int .i64 c.id, .int .i64 c.site, .int .i64 c.count, .bool c.gone, .string (str t)] 59)) := Below.refl _ _
  have l1 := numB_length c.id
  have l2 := numB_length c.site
  have l3 := numB_length c.count
  go_enter Try.func79, Try.ntmps79
  go_wp2_with fail
  refine (oneByte_any 2 _ (by decide) (by decide)).mono ?_
  rintro e w1 ⟨rfl, hh⟩
  have hb1 := box_step hb0 hh
  clear hh hb0
  have x0 : w1.cell? ⟨w.heap.size, 0, none⟩ = some (.int .i64 c.id) := boxN hb1 0
  go_wp2_with fail
  refine (number_any c.id _ h1.1 h1.2).mono ?_
  rintro e w2 ⟨rfl, hh⟩
  have hb2 := box_step hb1 hh
  clear hh hb1 x0
  have x0 : w2.cell? ⟨w.heap.size, 1, none⟩ = some (.int .i64 c.site) := boxN hb2 1
  go_wp2_with fail
  refine (number_any c.site _ h2.1 h2.2).mono ?_
  rintro e w3 ⟨rfl, hh⟩
  have hb3 := box_step hb2 hh
  clear hh hb2 x0
  have x0 : w3.cell? ⟨w.heap.size, 2, none⟩ = some (.int .i64 c.count) := boxN hb3 2
  go_wp2_with fail
  refine (number_any c.count _ h3.1 h3.2).mono ?_
  rintro e w4 ⟨rfl, hh⟩
  have hb4 := box_step hb3 hh
  clear hh hb3 x0
  have x0 : w4.cell? ⟨w.heap.size, 3, none⟩ = some (.bool c.gone) := boxN hb4 3
  go_wp2_with fail
  refine (goneByte_any c.gone _).mono ?_
  rintro e w5 ⟨rfl, hh⟩
  have hb5 := box_step hb4 hh
  clear hh hb4 x0
  have x0 : w5.cell? ⟨w.heap.size, 4, none⟩ = some (.string (str t)) := boxN hb5 4
  generalize numB c.id = n1 at *
  generalize numB c.site = n2 at *
  generalize numB c.count = n3 at *
  generalize (if c.gone = true then 1 else 0 : UInt8) = g at *
  go_wp2_with fail
  go_ret
  exact ⟨ret_str (by rw [← E0.out]; simp), box_old hb5⟩

set_option maxRecDepth 100000 in
set_option maxHeartbeats 1000000 in
theorem head_any (seq base : Int) (w : World) (h1 : Num seq) (h2 : 0 ≤ base) (h3 : base ≤ 4294967295) :
    Calls Try.prog 77 #[.int .i64 seq, .int .i64 base] w fun e w' => e = .returned (.string (str (recHead seq base))) ∧ Below w.heap.size w w' := by
  have l1 := numB_length seq
  by_cases hs : seq = 0
  · have hs2 : (seq == 0) = true := by simp [hs]
    have E : Hid ([byt 4] ++ numB seq = recHead seq base) := by show _ = _; unfold recHead; rw [if_pos hs]; simp; rfl
    clear hs
    go_enter Try.func77, Try.ntmps77
    go_wp2_with fail
    refine (oneByte_any 4 _ (by decide) (by decide)).mono ?_
    rintro e w1 ⟨rfl, hb1⟩
    go_wp2_with fail
    refine (number_any seq _ h1.1 h1.2).mono ?_
    rintro e w2 ⟨rfl, hb2⟩
    generalize numB seq = n1 at *
    go_wp2_with fail
    go_ret
    exact ⟨ret_str (by rw [← E.out]; simp), hb1.trans (hb2.mono hb1.size)⟩
  · have hs2 : (seq == 0) = false := by simp [hs]
    have E : Hid ([byt 4] ++ (numB seq ++ fourI base) = recHead seq base) := by show _ = _; unfold recHead; rw [if_neg hs]; rfl
    have l4 : (fourI base).length = 4 := rfl
    have L4 : (fourI base).length ≤ 4 := by omega
    clear hs l4
    go_enter Try.func77, Try.ntmps77
    go_wp2_with fail
    refine (oneByte_any 4 _ (by decide) (by decide)).mono ?_
    rintro e w1 ⟨rfl, hb1⟩
    go_wp2_with fail
    refine (number_any seq _ h1.1 h1.2).mono ?_
    rintro e w2 ⟨rfl, hb2⟩
    go_wp2_with fail
    refine (fourBytes_any base _ h2 h3).mono ?_
    rintro e w3 ⟨rfl, hb3⟩
    generalize numB seq = n1 at *
    generalize fourI base = n2 at *
    go_wp2_with fail
    go_ret
    exact ⟨ret_str (by rw [← E.out]; simp), hb1.trans ((hb2.mono hb1.size).trans (hb3.mono (Nat.le_trans hb1.size hb2.size)))⟩
end Go.Proofs.Ytmafnghokmcijaa
