/- Texts of the proof, one behind the other; what each holds is said at its head. -/
import Derived.Test.YtdjpkgaicmklmabPartChained2
import Derived.Test.YtdjpkgaicmklmabPartChained1
import Derived.Test.YtdjpkgaicmklmabPartChained0
import Derived.OwnWalk
import Derived.Laws.Rows
/- Merged clocks; what changed, laid over what was: without the program. -/
namespace Go.Proofs.Ytdjpkgaicmklmab
open Go.RowKit

section
variable {α : Type} (key : α → Int)
theorem look_append (l m : List α) (k : Int) : look key (l ++ m) k = (look key l k).or (look key m k) := by
  induction l with
  | nil => simp [look]
  | cons x l ih => simp only [List.cons_append, look]; split
                   · rfl
                   · exact ih
/-- What changed, laid over what was, is what is. -/
theorem lay_diff {old r : List α} (p : α → Bool) (ho : Asc key old) (hr : Asc key r) (hin : ∀ x ∈ old, ∃ y ∈ r, key y = key x) (hp : ∀ c ∈ r, p c = false → look key old (key c) = some c) :
    layK key (fun _ c => c) old (r.filter p) = r := by
  have hf : ∀ o c : α, key o = key c → key ((fun _ c => c) o c) = key c := fun _ _ _ => rfl
  have hd : Asc key (r.filter p) := List.Pairwise.filter _ hr
  refine asc_ext key (layK_asc key hf ho) hr (fun k => ?_)
  rw [look_lay key hf ho hd k]
  cases hk : look key r k with
  | none =>
    have n1 : look key old k = none := by
      cases h : look key old k with
      | none => rfl
      | some x =>
        obtain ⟨y, hy, e⟩ := hin x (look_mem key h).1
        rw [(look_mem key h).2] at e
        have := look_some key hr hy
        rw [e, hk] at this; cases this
    have n2 : look key (r.filter p) k = none := by
      cases h : look key (r.filter p) k with
      | none => rfl
      | some x =>
        have hm := (look_mem key h)
        have := look_some key hr (List.mem_filter.mp hm.1).1
        rw [hm.2, hk] at this; cases this
    rw [n1, n2]; rfl
  | some c =>
    obtain ⟨hc, e⟩ := look_mem key hk
    cases hpc : p c with
    | true =>
      have := look_some key hd (List.mem_filter.mpr ⟨hc, hpc⟩)
      rw [e] at this
      rw [this]; cases look key old k <;> rfl
    | false =>
      have h1 := hp c hc hpc
      rw [e] at h1
      have : look key (r.filter p) k = none := by
        cases h : look key (r.filter p) k with
        | none => rfl
        | some x =>
          have hm := look_mem key h
          have hx := List.mem_filter.mp hm.1
          have := look_some key hr hx.1
          rw [hm.2, hk] at this
          injection this with this
          rw [← this, hpc] at hx; exact absurd hx.2 (by decide)
      rw [this, h1]; rfl
end

def keepK (o c : Ck) : Ck := if o.count < c.count then c else o
theorem keepK_site (o c : Ck) (h : o.site = c.site) : (keepK o c).site = c.site := by unfold keepK; split <;> simp [h]
def mergeK (a b : List Ck) : List Ck := layK Ck.site keepK a b

theorem clocks_mem {cn : List Int} {x : Ck} : ∀ {n : Nat}, x ∈ clocksTo cn n → ∃ k, k < n ∧ x = ⟨siteL.getD k 0, cn.getD k 0⟩ ∧ 0 < cn.getD k 0
  | 0, h => by simp [clocksTo] at h
  | n + 1, h => by
    simp only [clocksTo, List.mem_append] at h
    rcases h with h | h
    · obtain ⟨k, hk, e⟩ := clocks_mem h; exact ⟨k, by omega, e⟩
    · split at h
      · rename_i h0; exact ⟨n, by omega, by simpa using h, h0⟩
      · simp at h
theorem clocks_asc (cn : List Int) : ∀ {n : Nat}, n ≤ 8 → Asc Ck.site (clocksTo cn n)
  | 0, _ => by simp [clocksTo, Asc]
  | n + 1, h => by
    simp only [clocksTo, Asc, List.pairwise_append]
    refine ⟨clocks_asc cn (by omega), by split <;> simp, fun x hx y hy => ?_⟩
    obtain ⟨k, hk, rfl, _⟩ := clocks_mem hx
    split at hy
    · simp at hy; subst hy; exact siteL_inc k n hk (by omega)
    · simp at hy
theorem clocks_look (cn : List Int) (k : Nat) : ∀ {n : Nat}, n ≤ 8 → k < n → look Ck.site (clocksTo cn n) (siteL.getD k 0) = if 0 < cn.getD k 0 then some ⟨siteL.getD k 0, cn.getD k 0⟩ else none
  | 0, _, h => by omega
  | n + 1, h, hk => by
    simp only [clocksTo]
    rw [look_append]
    by_cases e : k = n
    · have : look Ck.site (clocksTo cn n) (siteL.getD k 0) = none := look_none Ck.site (fun x hx => by
        obtain ⟨j, hj, rfl, _⟩ := clocks_mem hx
        have := siteL_inc j n hj (by omega)
        rw [e]; simp only; omega)
      rw [this, Option.none_or, e]
      split <;> simp [look]
    · rw [clocks_look cn k (by omega) (by omega)]
      have : look Ck.site (if 0 < cn.getD n 0 then [(⟨siteL.getD n 0, cn.getD n 0⟩ : Ck)] else []) (siteL.getD k 0) = none := look_none Ck.site (fun x hx => by
        split at hx
        · simp only [List.mem_singleton] at hx; subst hx
          have := siteL_inc k n (by omega) (by omega); simp only; omega
        · simp at hx)
      rw [this, Option.or_none]
theorem clocks_other (cn : List Int) (s : Int) (hs : ∀ k, k < 8 → siteL.getD k 0 ≠ s) : look Ck.site (clocksTo cn 8) s = none := look_none Ck.site (fun x hx => by
  obtain ⟨k, hk, rfl, _⟩ := clocks_mem hx
  exact hs k hk)
/-- The merged clocks of counts are those of the greater counts. -/
theorem merge_clocks (a b m : List Int) (h : ∀ k, k < 8 → m.getD k 0 = max (a.getD k 0) (b.getD k 0)) : mergeK (clocksTo a 8) (clocksTo b 8) = clocksTo m 8 := by
  refine asc_ext Ck.site (layK_asc Ck.site keepK_site (clocks_asc a (by omega))) (clocks_asc m (by omega)) (fun s => ?_)
  rw [show look Ck.site (mergeK (clocksTo a 8) (clocksTo b 8)) s = _ from look_lay Ck.site keepK_site (clocks_asc a (by omega)) (clocks_asc b (by omega)) s]
  by_cases hs : ∃ k, k < 8 ∧ siteL.getD k 0 = s
  · obtain ⟨k, hk, rfl⟩ := hs
    have hk2 := h k hk
    rw [clocks_look a k (by omega) hk, clocks_look b k (by omega) hk, clocks_look m k (by omega) hk, hk2]
    generalize a.getD k 0 = x at *
    generalize b.getD k 0 = y at *
    by_cases h1 : 0 < x
    · by_cases h2 : 0 < y
      · rw [if_pos h1, if_pos h2, if_pos (by omega)]
        simp only [over, keepK]
        by_cases h3 : x < y
        · rw [if_pos h3, show max x y = y by omega]
        · rw [if_neg h3, show max x y = x by omega]
      · rw [if_pos h1, if_neg h2, if_pos (by omega), show max x y = x by omega]; rfl
    · by_cases h2 : 0 < y
      · rw [if_neg h1, if_pos h2, if_pos (by omega), show max x y = y by omega]; rfl
      · rw [if_neg h1, if_neg h2, if_neg (by omega)]; rfl
  · have : ∀ k, k < 8 → siteL.getD k 0 ≠ s := fun k hk e => hs ⟨k, hk, e⟩
    rw [clocks_other a s this, clocks_other b s this, clocks_other m s this]; rfl
end Go.Proofs.Ytdjpkgaicmklmab

/- The replica that has seen some first writes, with any edits that may be, is sound; edits of both: without the program. -/
namespace Go.Proofs.Ytdjpkgaicmklmab
open Go.RowKit

theorem state_chk (S : Seen) (i0 : Nat) (hi0 : i0 ≤ 40) (E : List Ed) (hE : E.length ≤ 16) (hE2 : ∀ x ∈ E, (1 ≤ x.id ∧ x.id ≤ 4611686018427387904) ∧ x.text.size ≤ 60) : (repOf (clocksTo (runS S i0).1 8) (runS S i0).2 E).chk = 0 := by
  obtain ⟨h1, h2, h3⟩ := runS_good S i0
  have hl := runS_length S i0
  have hcr := runS_cards S i0
  have hcb := runS_counts S i0
  generalize runS S i0 = st at *
  have hk8 := clocksTo_length st.1 8
  have hks := clocksTo_sorted st.1 8 (by omega)
  have out : ∀ n m : Int, 1 ≤ n → n ≤ m → outB n m = false := by intro n m a b; unfold outB; simp; omega
  have g1 : (repOf (clocksTo st.1 8) st.2 E).manyB = false := by
    unfold Rep.manyB; simp [repOf]; omega
  have hclk : ∀ i, i < (clocksTo st.1 8).length → ∃ j, j < 8 ∧ (clocksTo st.1 8).getD i ck0 = ⟨siteL.getD j 0, st.1.getD j 0⟩ ∧ 0 < st.1.getD j 0 := fun i hi => clocksTo_mem (getD_mem hi)
  have hcd : ∀ i, i < st.2.length → GoodC st.1 (st.2.getD i cd0) := fun i hi => h1 _ (getD_mem hi)
  have hed : ∀ i, i < E.length → (1 ≤ (E.getD i ed0).id ∧ (E.getD i ed0).id ≤ 4611686018427387904) ∧ (E.getD i ed0).text.size ≤ 60 := fun i hi => hE2 _ (getD_mem hi)
  have g2 : (repOf (clocksTo st.1 8) st.2 E).numB = false := by
    unfold Rep.numB
    rw [anyTo_none, anyTo_none, anyTo_none]
    · rfl
    · intro i hi
      have hx := hed i hi
      show outB (E.getD i ed0).id _ = false
      exact out _ _ hx.1.1 hx.1.2
    · intro i hi
      obtain ⟨⟨j, hj, hs, hlo, hhi⟩, hid, _, _⟩ := hcd i hi
      have := siteL_lt j hj
      have := hcb j
      show (scB (st.2.getD i cd0).site (st.2.getD i cd0).count || outB (st.2.getD i cd0).id _) = false
      unfold scB
      rw [out _ _ (by omega) (by omega), out _ _ hlo (by omega), out _ _ hid.1 hid.2]; rfl
    · intro i hi
      obtain ⟨j, hj, hx, hp⟩ := hclk i hi
      have := siteL_lt j hj
      have := hcb j
      show scB ((clocksTo st.1 8).getD i ck0).site ((clocksTo st.1 8).getD i ck0).count = false
      rw [hx]
      show scB (siteL.getD j 0) (st.1.getD j 0) = false
      unfold scB
      rw [out _ _ (by omega) (by omega), out _ _ (by omega) (by omega)]; rfl
  have g3 : (repOf (clocksTo st.1 8) st.2 E).txtB = false := by
    unfold Rep.txtB
    rw [anyTo_none, anyTo_none]
    · rfl
    · intro i hi
      have hx := hed i hi
      show longB (E.getD i ed0).text = false
      unfold longB; exact decide_eq_false (by omega)
    · intro i hi
      obtain ⟨_, _, ht, hg⟩ := hcd i hi
      show (longB (st.2.getD i cd0).text || ((st.2.getD i cd0).gone && !(st.2.getD i cd0).text.toList.isEmpty)) = false
      rw [Bool.or_eq_false_iff]
      constructor
      · unfold longB; exact decide_eq_false (by omega)
      · cases hgo : (st.2.getD i cd0).gone
        · rfl
        · rw [hg hgo]; rfl
  have g4 : (repOf (clocksTo st.1 8) st.2 E).risB = false := by
    unfold Rep.risB
    rw [anyTo_none, anyTo_none]
    · rfl
    · intro i hi
      have hi : i < st.2.length - 1 := hi
      have := pairwise_getD (d := cd0) h2 (show i < i + 1 by omega) (by omega)
      show decide ((st.2.getD (i + 1) cd0).id ≤ (st.2.getD i cd0).id) = false
      exact decide_eq_false (by omega)
    · intro i hi
      have hi : i < (clocksTo st.1 8).length - 1 := hi
      have := pairwise_getD (d := ck0) hks (show i < i + 1 by omega) (by omega)
      show decide (((clocksTo st.1 8).getD (i + 1) ck0).site ≤ ((clocksTo st.1 8).getD i ck0).site) = false
      exact decide_eq_false (by omega)
  have g5 : (repOf (clocksTo st.1 8) st.2 E).uncB = false := by
    unfold Rep.uncB
    refine anyTo_none fun i hi => ?_
    obtain ⟨⟨j, hj, hs, hlo, hhi⟩, _, _, _⟩ := hcd i hi
    have hm := clocksTo_has (cn := st.1) (j := j) (by omega) hj
    have hf := clockTo_found hks hm
    show decide ((clockTo (fun i => (clocksTo st.1 8).getD i ck0) (st.2.getD i cd0).site (clocksTo st.1 8).length).getD 0 < (st.2.getD i cd0).count) = false
    rw [hs, hf]
    show decide (st.1.getD j 0 < (st.2.getD i cd0).count) = false
    exact decide_eq_false (by omega)
  have g6 : (repOf (clocksTo st.1 8) st.2 E).clashB = false := by
    unfold Rep.clashB
    refine anyTo_none fun i hi => anyTo_none fun k hk => ?_
    have ha : Apart (st.2.getD k cd0) (st.2.getD i cd0) := pairwise_getD (d := cd0) h3 hk hi
    show stampB (st.2.getD i cd0) (st.2.getD k cd0) = false
    unfold stampB
    unfold Apart at ha
    cases hb : ((st.2.getD i cd0).site == (st.2.getD k cd0).site && (st.2.getD i cd0).count == (st.2.getD k cd0).count)
    · rfl
    · simp only [Bool.and_eq_true, beq_iff_eq] at hb
      exact absurd ⟨hb.1.symm, hb.2.symm⟩ ha
  unfold Rep.chk
  rw [g1, g2, g3, g4, g5, g6]; rfl

instance decEd : DecidableEq Ed := fun a b => match a, b with
  | ⟨i, s⟩, ⟨j, t⟩ => if h : i = j ∧ s = t then isTrue (by rw [h.1, h.2]) else isFalse (fun e => by injection e with e1 e2; exact h ⟨e1, e2⟩)
/-- Edits, and behind them those others that are not there. -/
def bothE (a b : List Ed) : List Ed := b.foldl (fun l e => if e ∈ l then l else l ++ [e]) a
theorem both_old : ∀ {b a : List Ed} {x : Ed}, x ∈ a → x ∈ bothE a b
  | [], _, _, h => h
  | e :: b, a, x, h => by
    show x ∈ bothE (if e ∈ a then a else a ++ [e]) b
    refine both_old ?_
    split
    · exact h
    · simp [h]
theorem both_new : ∀ {b a : List Ed} {x : Ed}, x ∈ b → x ∈ bothE a b
  | [], _, _, h => by simp at h
  | e :: b, a, x, h => by
    show x ∈ bothE (if e ∈ a then a else a ++ [e]) b
    rcases List.mem_cons.mp h with rfl | h
    · refine both_old ?_
      split
      · assumption
      · simp
    · exact both_new h
theorem both_mem : ∀ {b a : List Ed} {x : Ed}, x ∈ bothE a b → x ∈ a ∨ x ∈ b
  | [], _, _, h => Or.inl h
  | e :: b, a, x, h => by
    have h : x ∈ bothE (if e ∈ a then a else a ++ [e]) b := h
    rcases both_mem h with h | h
    · split at h
      · exact Or.inl h
      · rcases List.mem_append.mp h with h | h
        · exact Or.inl h
        · right; simp at h; simp [h]
    · right; simp [h]
theorem both_len : ∀ (b a : List Ed), (bothE a b).length ≤ a.length + b.length
  | [], a => by simp [bothE]
  | e :: b, a => by
    have := both_len b (if e ∈ a then a else a ++ [e])
    show (bothE (if e ∈ a then a else a ++ [e]) b).length ≤ _
    have h2 : (if e ∈ a then a else a ++ [e]).length ≤ a.length + 1 := by split <;> simp
    simp only [List.length_cons]; omega
theorem both_there : ∀ {b a : List Ed}, (∀ x ∈ b, x ∈ a) → bothE a b = a
  | [], _, _ => rfl
  | e :: b, a, h => by
    show bothE (if e ∈ a then a else a ++ [e]) b = a
    rw [if_pos (h e (by simp))]; exact both_there (fun x hx => h x (by simp [hx]))
theorem both_again (a b : List Ed) : bothE (bothE a b) b = bothE a b := both_there (fun _ hx => both_new hx)
end Go.Proofs.Ytdjpkgaicmklmab

/- Bits turned over within 32 consecutive ones turn the sum: without the program. -/
namespace Go.Proofs.Ytdjpkgaicmklmab

theorem div1_inj {p x y : Nat} (hp : p % 2 = 1) (h : div1 p x = div1 p y) : x = y := by
  have par : ∀ z : Nat, ((2 * z) ^^^ (p + 4294967296)) % 2 = 1 := by
    intro z
    have := Nat.xor_mod_two_pow (a := 2 * z) (b := p + 4294967296) (n := 1)
    rw [Nat.pow_one] at this
    rw [this, show 2 * z % 2 = 0 by omega, show (p + 4294967296) % 2 = 1 by omega]
    rfl
  unfold div1 at h
  split at h <;> split at h
  · have h2 := congrArg (fun z => z ^^^ (p + 4294967296)) h
    simp only [Nat.xor_assoc, Nat.xor_self, Nat.xor_zero] at h2
    omega
  · have := par x; rw [h] at this; omega
  · have := par y; rw [← h] at this; omega
  · omega
theorem divN_inj {p : Nat} (hp : p % 2 = 1) : ∀ (k : Nat) {x y : Nat}, divN p k x = divN p k y → x = y
  | 0, _, _, h => h
  | k + 1, _, _, h => div1_inj hp (divN_inj hp k h)
theorem high_inj : ∀ (l m : List Bool), l.length = m.length → l.length ≤ 32 → high l = high m → l = m
  | [], [], _, _, _ => rfl
  | [], _ :: _, h, _, _ => by simp at h
  | _ :: _, [], h, _, _ => by simp at h
  | b :: l, c :: m, hl, h32, h => by
    have hb : b = c := by rw [← bit_high_top b l, ← bit_high_top c m, h]
    subst hb
    simp only [List.length_cons] at hl h32
    have e1 := high_even l 31 (by omega) (by omega)
    have e2 := high_even m 31 (by omega) (by omega)
    simp only [high] at h
    rw [high_inj l m (by omega) (by omega) (by omega)]
theorem crcB_short {p : Nat} (hp : p < 4294967296) (r : Nat) (hr : r < 4294967296) (e : List Bool) (he : e.length ≤ 32) : crcB p r e = divN p e.length (r ^^^ high e) := by
  have := divN_high p hp [] e r hr (by simpa using he)
  rw [List.append_nil] at this
  rw [this]; simp [high]
theorem cst_inj {p x y : Nat} {b : Bool} (hp : p < 4294967296) (ho : p % 2 = 1) (hx : x < 4294967296) (hy : y < 4294967296) (h : cst p x b = cst p y b) : x = y := by
  have ex := crcB_short hp x hx [b] (by simp)
  have ey := crcB_short hp y hy [b] (by simp)
  have : divN p 1 (x ^^^ high [b]) = divN p 1 (y ^^^ high [b]) := by
    rw [← List.length_singleton (a := b), ← ex, ← ey]; exact h
  have h2 := divN_inj ho 1 this
  have h3 := congrArg (fun z => z ^^^ high [b]) h2
  simpa [Nat.xor_assoc] using h3
theorem crcB_inj {p : Nat} (hp : p < 4294967296) (ho : p % 2 = 1) : ∀ (c : List Bool) {x y : Nat}, x < 4294967296 → y < 4294967296 → crcB p x c = crcB p y c → x = y
  | [], _, _, _, _, h => h
  | _ :: c, _, _, hx, hy, h => cst_inj hp ho hx hy (crcB_inj hp ho c (cst_lt hp) (cst_lt hp) h)
/-- Bits that part within 32 consecutive ones part the registers. -/
theorem burst {p : Nat} (hp : p < 4294967296) (ho : p % 2 = 1) (r : Nat) (hr : r < 4294967296) (a e e' c : List Bool) (hl : e.length = e'.length) (h32 : e.length ≤ 32) (h : crcB p r (a ++ e ++ c) = crcB p r (a ++ e' ++ c)) : e = e' := by
  have ha := crcB_lt hp a hr
  rw [crcB_append, crcB_append, crcB_append p r (a ++ e') c, crcB_append p r a e'] at h
  have h1 := crcB_inj hp ho c (crcB_lt hp e ha) (crcB_lt hp e' ha) h
  rw [crcB_short hp _ ha e h32, crcB_short hp _ ha e' (by omega), hl] at h1
  have h2 := divN_inj ho _ h1
  have h3 := congrArg (fun z => crcB p r a ^^^ z) h2
  simp only [← Nat.xor_assoc, Nat.xor_self, Nat.zero_xor] at h3
  exact high_inj e e' hl h32 h3

theorem high_append : ∀ (l m : List Bool), l.length + m.length ≤ 32 → high (l ++ m) = high l + high m / 2 ^ l.length
  | [], m, _ => by simp [high]
  | b :: l, m, h => by
    simp only [List.length_cons] at h
    have e := high_even l 31 (by omega) (by omega)
    simp only [List.cons_append, high, high_append l m (by omega), List.length_cons]
    rw [Nat.pow_succ, ← Nat.div_div_eq_div_mul]
    omega
theorem high_bytes (a b c d : UInt8) : high (allBits [a, b, c, d]) = a.toNat * 16777216 + b.toNat * 65536 + c.toNat * 256 + d.toNat := by
  have e : allBits [a, b, c, d] = bitsOf a ++ (bitsOf b ++ (bitsOf c ++ bitsOf d)) := by simp [allBits]
  rw [e, high_append _ _ (by simp [bitsOf]), high_append _ _ (by simp [bitsOf]), high_append _ _ (by simp [bitsOf])]
  rw [← byte_high, ← byte_high, ← byte_high, ← byte_high]
  simp only [show (bitsOf a).length = 8 from rfl, show (bitsOf b).length = 8 from rfl, show (bitsOf c).length = 8 from rfl]
  omega
theorem bytN (n : Int) (h0 : 0 ≤ n) (h1 : n < 256) : ((byt n).toNat : Int) = n := by
  simp [byt]; omega
theorem high_four (x : Nat) (h : x < 4294967296) : high (allBits (fourI x)) = x := by
  have a := bytN ((x : Int) / 16777216) (by omega) (by omega)
  have b := bytN ((x : Int) / 65536 % 256) (by omega) (by omega)
  have c := bytN ((x : Int) / 256 % 256) (by omega) (by omega)
  have d := bytN ((x : Int) % 256) (by omega) (by omega)
  unfold fourI
  rw [high_bytes]
  omega
/-- Bytes that end in their own sum leave all registers alike. -/
theorem resid {p : Nat} (hp : p < 4294967296) (s : List UInt8) : crcB p 4294967295 (allBits (s ++ fourI (crc p s))) = divN p 32 4294967295 := by
  have hr := crcB_lt hp (allBits s) (r := 4294967295) (by omega)
  have hc := crc_lt hp s
  rw [allBits_append, crcB_append, crcB_short hp _ hr _ (by rw [allBits_length]; simp [fourI]), high_four _ hc, allBits_length]
  simp only [crc, ← Nat.xor_assoc, Nat.xor_self, Nat.zero_xor]
  rfl
/-- Of two strings that end in their own sums and part within 32 consecutive bits alone both are the same. -/
theorem torn {p : Nat} (hp : p < 4294967296) (ho : p % 2 = 1) (s t : List UInt8) (a e e' c : List Bool) (hs : allBits (s ++ fourI (crc p s)) = a ++ e ++ c) (ht : allBits (t ++ fourI (crc p t)) = a ++ e' ++ c) (hl : e.length = e'.length) (h32 : e.length ≤ 32) : e = e' := by
  have h1 := resid hp s
  have h2 := resid hp t
  rw [hs] at h1
  rw [ht] at h2
  exact burst hp ho _ (by omega) a e e' c hl h32 (h1.trans h2.symm)
/-- Bits turned over within 32 consecutive ones turn the sum. -/
theorem crc_turn {p : Nat} (hp : p < 4294967296) (ho : p % 2 = 1) (s t : List UInt8) (a e e' c : List Bool) (hs : allBits s = a ++ e ++ c) (ht : allBits t = a ++ e' ++ c) (hl : e.length = e'.length) (h32 : e.length ≤ 32) (h : crc p s = crc p t) : e = e' := by
  unfold crc at h
  rw [hs, ht] at h
  have h2 := congrArg (fun z => z ^^^ 4294967295) h
  simp only [Nat.xor_assoc, Nat.xor_self, Nat.xor_zero] at h2
  exact burst hp ho _ (by omega) a e e' c hl h32 h2

/-- The register is linear in itself and in the bits. -/
theorem cst_lin (p r r' : Nat) (b b' : Bool) : cst p (r ^^^ r') (b != b') = cst p r b ^^^ cst p r' b' := by
  unfold cst
  rw [Nat.testBit_xor, xor_two_mul, xor_mod]
  generalize 2 * r % 4294967296 = u
  generalize 2 * r' % 4294967296 = v
  have e1 : (u ^^^ p) ^^^ (v ^^^ p) = u ^^^ v := by
    rw [Nat.xor_comm v p, ← Nat.xor_assoc, Nat.xor_assoc u p p, Nat.xor_self, Nat.xor_zero]
  have e2 : (u ^^^ p) ^^^ v = (u ^^^ v) ^^^ p := by rw [Nat.xor_assoc, Nat.xor_comm p v, ← Nat.xor_assoc]
  have e3 : u ^^^ (v ^^^ p) = (u ^^^ v) ^^^ p := by rw [Nat.xor_assoc]
  cases r.testBit 31 <;> cases r'.testBit 31 <;> cases b <;> cases b' <;> simp [e1, e2, e3]
theorem crcB_lin (p : Nat) : ∀ (l m : List Bool) (r r' : Nat), l.length = m.length → crcB p (r ^^^ r') (List.zipWith (· != ·) l m) = crcB p r l ^^^ crcB p r' m
  | [], [], _, _, _ => rfl
  | [], _ :: _, _, _, h => by simp at h
  | _ :: _, [], _, _, h => by simp at h
  | b :: l, c :: m, r, r', h => by
    simp only [List.zipWith_cons_cons, crcB, List.foldl_cons]
    rw [cst_lin]
    exact crcB_lin p l m _ _ (by simpa using h)
/-- What two strings' sums part by hangs on what the strings part by alone. -/
theorem crc_part (p : Nat) (s t : List UInt8) (h : s.length = t.length) : crc p s ^^^ crc p t = crcB p 0 (List.zipWith (· != ·) (allBits s) (allBits t)) := by
  have := crcB_lin p (allBits s) (allBits t) 4294967295 4294967295 (by rw [allBits_length, allBits_length, h])
  rw [Nat.xor_self] at this
  rw [this]
  unfold crc
  rw [Nat.xor_comm (crcB p 4294967295 (allBits t)) 4294967295, ← Nat.xor_assoc, Nat.xor_assoc (crcB p 4294967295 (allBits s)), Nat.xor_self, Nat.xor_zero]
theorem crcB_zeros (p : Nat) : ∀ n, crcB p 0 (List.replicate n false) = 0
  | 0 => rfl
  | n + 1 => by
    simp only [List.replicate_succ, crcB, List.foldl_cons]
    have : cst p 0 false = 0 := by simp [cst]
    rw [this]; exact crcB_zeros p n
/-- What two frames part by whose records part in the last byte, a against b. -/
def d40 : List Bool := bitsOf 3 ++ allBits (fourI (crcB pSum 0 (bitsOf 3)))
theorem strange_seal : crcB pSeal 0 d40 ≠ 0 := by decide +kernel
theorem strange_sum : crcB pSum 0 (d40 ++ allBits (fourI (crcB pSeal 0 d40))) ≠ 0 := by decide +kernel
end Go.Proofs.Ytdjpkgaicmklmab

/- Volumes: Split and Join without the program. -/
namespace Go.Proofs.Ytdjpkgaicmklmab
open Go.RowKit

/-- The head and the bytes of a volume, ahead of its own sum. -/
def volH (i n : Int) (s : Nat) (part : List UInt8) : List UInt8 := [86, 79, 76, 49, byt i, byt n] ++ fourI s ++ part
def volB (i n : Int) (s : Nat) (part : List UInt8) : List UInt8 := volH i n s part ++ fourI (crc pSum (volH i n s part))
/-- How many volumes of m bytes each. -/
def cntB (m k : Nat) : Nat := if k ≤ m then 1 else (k + m - 1) / m
def partB (m i : Nat) (b : List UInt8) : List UInt8 := (b.drop (i * m)).take m
def volsB (m : Nat) (b : List UInt8) : List (List UInt8) :=
  (List.range (cntB m b.length)).map fun (i : Nat) => volB (i : Int) (cntB m b.length) (crc pSum b) (partB m i b)

def numV (v : List UInt8) : Nat := (v.getD 4 0).toNat
def cntV (v : List UInt8) : Nat := (v.getD 5 0).toNat
def idV (v : List UInt8) : List UInt8 := (v.drop 5).take 5
def sumV (v : List UInt8) : List UInt8 := (v.drop 6).take 4
def bodyV (v : List UInt8) : List UInt8 := (v.drop 10).take (v.length - 14)
def volOk (v : List UInt8) : Bool := decide (14 ≤ v.length) && v.take 4 == [86, 79, 76, 49] && decide (numV v < cntV v) && fourI (crc pSum (v.take (v.length - 4))) == v.drop (v.length - 4)

def firstOf (f : Nat → Bool) (n : Nat) : Option Nat := (List.range n).find? f
theorem firstOf_some {f : Nat → Bool} {n i : Nat} : firstOf f n = some i ↔ f i = true ∧ i < n ∧ ∀ j, j < i → f j = false := by
  unfold firstOf; rw [List.find?_range_eq_some]; simp
theorem firstOf_none {f : Nat → Bool} {n : Nat} : firstOf f n = none ↔ ∀ i, i < n → f i = false := by
  unfold firstOf; rw [List.find?_eq_none]; simp

def atV (l : List (List UInt8)) (n : Nat) : Nat := l.findIdx (fun v => numV v == n)
def bad1 (l : List (List UInt8)) (i : Nat) : Bool := !volOk (l.getD i [])
def bad2 (l : List (List UInt8)) (i : Nat) : Bool := idV (l.getD i []) != idV (l.getD 0 [])
def bad3 (l : List (List UInt8)) (i : Nat) : Bool := (l.take i).any fun v => numV v == numV (l.getD i [])
def allV (l : List (List UInt8)) (k : Nat) : List UInt8 := (List.range k).flatMap fun n => bodyV (l.getD (atV l n) [])
structure Jn where
  b : List UInt8
  err : Int
  at_ : Nat
def joinRd (l : List (List UInt8)) : Jn :=
  match firstOf (bad1 l) l.length with
  | some i => ⟨[], 13, i⟩
  | none => match firstOf (bad2 l) l.length with
    | some i => ⟨[], 14, i⟩
    | none => match firstOf (bad3 l) l.length with
      | some i => ⟨[], 15, i⟩
      | none => if l.length = 0 ∨ l.length ≠ cntV (l.getD 0 []) then ⟨[], 16, 0⟩
        else if fourI (crc pSum (allV l l.length)) ≠ sumV (l.getD 0 []) then ⟨[], 8, 0⟩ else ⟨allV l l.length, 0, 0⟩

/-- Numbers below n, none twice, are at most n; n of them are all. -/
theorem below_length : ∀ (n : Nat) (l : List Nat), l.Nodup → (∀ x ∈ l, x < n) → l.length ≤ n
  | 0, [], _, _ => Nat.le_refl 0
  | 0, x :: _, _, h => absurd (h x (by simp)) (by omega)
  | n + 1, l, hd, h => by
    have := below_length n (l.erase n) (hd.erase n) (fun x hx => by
      rw [hd.mem_erase_iff] at hx; have := h x hx.2; omega)
    rw [List.length_erase] at this; split at this <;> omega
theorem below_all {n : Nat} {l : List Nat} (hd : l.Nodup) (h : ∀ x ∈ l, x < n) (hl : l.length = n) {k : Nat} (hk : k < n) : k ∈ l := by
  by_cases hm : k ∈ l
  · exact hm
  · have := below_length n (k :: l) (List.nodup_cons.mpr ⟨hm, hd⟩) (by intro x hx; rcases List.mem_cons.mp hx with rfl | hx; exact hk; exact h x hx)
    simp at this; omega

theorem bad3_none {l : List (List UInt8)} (h : ∀ i, i < l.length → bad3 l i = false) : (l.map numV).Nodup := by
  rw [List.nodup_iff_pairwise_ne, List.pairwise_iff_getElem]
  intro i j hi hj hij he
  simp only [List.length_map] at hi hj
  have := h j hj
  simp only [bad3, List.any_eq_false, beq_iff_eq] at this
  simp only [List.getElem_map] at he
  refine this l[i] ?_ ?_
  · rw [List.mem_take_iff_getElem]; exact ⟨i, by omega, rfl⟩
  · rw [he, List.getD_eq_getElem?_getD, List.getElem?_eq_getElem hj]; rfl
theorem nodup_bad3 {l : List (List UInt8)} (h : (l.map numV).Nodup) (i : Nat) (hi : i < l.length) : bad3 l i = false := by
  rw [List.nodup_iff_pairwise_ne, List.pairwise_iff_getElem] at h
  simp only [bad3, List.any_eq_false, beq_iff_eq]
  intro v hv he
  rw [List.mem_take_iff_getElem] at hv
  obtain ⟨j, hj, rfl⟩ := hv
  refine h j i (by simp; omega) (by simpa using hi) (by omega) ?_
  simp only [List.getElem_map]
  rw [he, List.getD_eq_getElem?_getD, List.getElem?_eq_getElem hi]; rfl

/-- Behind the first three searches each number below the count is there. -/
theorem at_lt {l : List (List UInt8)} (h1 : ∀ i, i < l.length → bad1 l i = false) (h2 : ∀ i, i < l.length → bad2 l i = false) (h3 : ∀ i, i < l.length → bad3 l i = false)
    (hl : l.length = cntV (l.getD 0 [])) {n : Nat} (hn : n < l.length) : atV l n < l.length := by
  have hc : ∀ i, i < l.length → cntV (l.getD i []) = cntV (l.getD 0 []) := by
    intro i hi
    have a := h2 i hi
    simp only [bad2, bne_eq_false_iff_eq] at a
    have hz : ∀ v : List UInt8, cntV v = ((idV v).getD 0 0).toNat := by intro v; unfold cntV idV; simp [List.getElem?_drop]
    rw [hz, hz, a]
  have hm : n ∈ l.map numV := by
    refine below_all (n := l.length) (bad3_none h3) ?_ (by simp) hn
    intro x hx
    rw [List.mem_map] at hx
    obtain ⟨v, hv, rfl⟩ := hx
    obtain ⟨i, hi, rfl⟩ := List.mem_iff_getElem.mp hv
    have a := h1 i hi
    have b := hc i hi
    simp only [bad1, Bool.not_eq_false', List.getD_eq_getElem?_getD, List.getElem?_eq_getElem hi, Option.getD_some] at a
    simp only [List.getD_eq_getElem?_getD, List.getElem?_eq_getElem hi, Option.getD_some] at b hl
    simp only [volOk, Bool.and_eq_true, decide_eq_true_eq] at a
    omega
  unfold atV
  rw [List.findIdx_lt_length]
  rw [List.mem_map] at hm
  obtain ⟨v, hv, he⟩ := hm
  exact ⟨v, hv, by simp [he]⟩
end Go.Proofs.Ytdjpkgaicmklmab

/- Volumes: what Join makes of the volumes of some bytes, without the program. -/
namespace Go.Proofs.Ytdjpkgaicmklmab
open Go.RowKit

theorem fourI_len (s : Int) : (fourI s).length = 4 := rfl
theorem fourI_inj {s t : Nat} (hs : s < 4294967296) (ht : t < 4294967296) (h : fourI s = fourI t) : s = t := by
  rw [← high_four s hs, ← high_four t ht, h]
theorem pSum_lt : pSum < 4294967296 := by decide
theorem pSum_odd : pSum % 2 = 1 := by decide

theorem volH_len (i n : Int) (s : Nat) (p : List UInt8) : (volH i n s p).length = p.length + 10 := by
  simp [volH, fourI]
theorem volB_len (i n : Int) (s : Nat) (p : List UInt8) : (volB i n s p).length = p.length + 14 := by
  simp [volB, volH_len, fourI_len]
theorem byt_nat (i : Nat) (h : i < 256) : (byt i).toNat = i := by
  have := bytN i (by omega) (by omega); omega
theorem volB_num (i n : Nat) (s : Nat) (p : List UInt8) (h : i < 256) : numV (volB i n s p) = i := by
  simp [numV, volB, volH, byt_nat i h]
theorem volB_cnt (i n : Nat) (s : Nat) (p : List UInt8) (h : n < 256) : cntV (volB i n s p) = n := by
  simp [cntV, volB, volH, byt_nat n h]
theorem volB_id (i n : Int) (s : Nat) (p : List UInt8) : idV (volB i n s p) = byt n :: fourI s := by
  simp [idV, volB, volH, fourI]
theorem volB_sum (i n : Int) (s : Nat) (p : List UInt8) : sumV (volB i n s p) = fourI s := by
  simp [sumV, volB, volH, fourI]
theorem volB_body (i n : Int) (s : Nat) (p : List UInt8) : bodyV (volB i n s p) = p := by
  unfold bodyV; rw [volB_len]; simp [volB, volH, fourI]
theorem volB_ok (i n : Nat) (s : Nat) (p : List UInt8) (h : i < n) (hn : n < 256) : volOk (volB i n s p) = true := by
  have e : (volB i n s p).length - 4 = (volH i n s p).length := by rw [volB_len, volH_len]; omega
  unfold volOk
  rw [volB_num i n s p (by omega), volB_cnt i n s p hn, e]
  have a : (volB i n s p).take (volH i n s p).length = volH i n s p := by simp [volB]
  have b : (volB i n s p).drop (volH i n s p).length = fourI (crc pSum (volH i n s p)) := by simp [volB]
  rw [a, b, volB_len]
  simp [h, volB, volH]

theorem cnt_pos (m k : Nat) (hm : 0 < m) : 0 < cntB m k := by
  unfold cntB; split
  · omega
  · exact Nat.div_pos (by omega) hm
theorem cnt_ge (m k : Nat) (hm : 0 < m) : k ≤ cntB m k * m := by
  unfold cntB; split
  · omega
  · have := Nat.div_add_mod (k + m - 1) m; have := Nat.mod_lt (k + m - 1) hm; rw [Nat.mul_comm]; omega
theorem cnt_least (m k : Nat) (hm : 0 < m) : 1 < cntB m k → (cntB m k - 1) * m < k := by
  unfold cntB; split
  · omega
  · intro _
    have := Nat.div_add_mod (k + m - 1) m
    rw [Nat.sub_mul, Nat.mul_comm]; omega
theorem cnt_small (m k : Nat) (hm : 26 ≤ m) (hk : k ≤ 6000) : cntB m k < 256 := by
  by_cases h : 1 < cntB m k
  · have := cnt_least m k (by omega) h
    have : (cntB m k - 1) * 26 ≤ (cntB m k - 1) * m := Nat.mul_le_mul_left _ hm
    omega
  · omega

theorem parts_take (m : Nat) (b : List UInt8) : ∀ k, ((List.range k).flatMap fun i => partB m i b) = b.take (k * m)
  | 0 => by simp
  | k + 1 => by
    rw [List.range_succ, List.flatMap_append, parts_take m b k]
    simp only [List.flatMap_cons, List.flatMap_nil, List.append_nil, partB]
    rw [Nat.add_mul, Nat.one_mul, List.take_add]
theorem parts_all (m : Nat) (b : List UInt8) (hm : 0 < m) : ((List.range (cntB m b.length)).flatMap fun i => partB m i b) = b := by
  rw [parts_take, List.take_of_length_le (cnt_ge m b.length hm)]

theorem vols_len (m : Nat) (b : List UInt8) : (volsB m b).length = cntB m b.length := by simp [volsB]
theorem vols_get (m : Nat) (b : List UInt8) (i : Nat) (h : i < cntB m b.length) : (volsB m b).getD i [] = volB i (cntB m b.length) (crc pSum b) (partB m i b) := by
  simp [volsB, h]
theorem vols_mem {m : Nat} {b v : List UInt8} (h : v ∈ volsB m b) : ∃ i, i < cntB m b.length ∧ v = volB (i : Nat) (cntB m b.length) (crc pSum b) (partB m i b) := by
  simp only [volsB, List.mem_map, List.mem_range] at h
  obtain ⟨i, hi, rfl⟩ := h; exact ⟨i, hi, rfl⟩
theorem vols_nums (m : Nat) (b : List UInt8) (hs : cntB m b.length < 256) : (volsB m b).map numV = List.range (cntB m b.length) := by
  unfold volsB; rw [List.map_map]
  conv => rhs; rw [← List.map_id (List.range _)]
  apply List.map_congr_left; intro i hi
  simp only [List.mem_range] at hi
  simp only [Function.comp_apply, id_eq]
  exact volB_num i _ _ _ (by omega)

theorem volAt_mem {l : List (List UInt8)} {i : Nat} (h : i < l.length) : l.getD i [] ∈ l := by
  rw [List.getD_eq_getElem?_getD, List.getElem?_eq_getElem h]; exact List.getElem_mem h

/-- What lists of volumes of some bytes have in common. -/
structure Of (m : Nat) (b : List UInt8) (l : List (List UInt8)) : Prop where
  all : ∀ v ∈ l, v ∈ volsB m b
  hm : 26 ≤ m
  hb : b.length ≤ 6000
theorem Of.bad1 {m : Nat} {b : List UInt8} {l : List (List UInt8)} (h : Of m b l) (i : Nat) (hi : i < l.length) : bad1 l i = false := by
  obtain ⟨k, hk, e⟩ := vols_mem (h.all _ (volAt_mem hi))
  unfold Ytdjpkgaicmklmab.bad1; rw [e, volB_ok k _ _ _ hk (cnt_small m _ h.hm h.hb)]; rfl
theorem Of.id {m : Nat} {b : List UInt8} {l : List (List UInt8)} (h : Of m b l) (i : Nat) (hi : i < l.length) : idV (l.getD i []) = byt (cntB m b.length : Nat) :: fourI (crc pSum b) := by
  obtain ⟨k, hk, e⟩ := vols_mem (h.all _ (volAt_mem hi))
  rw [e, volB_id]
theorem Of.bad2 {m : Nat} {b : List UInt8} {l : List (List UInt8)} (h : Of m b l) (i : Nat) (hi : i < l.length) : bad2 l i = false := by
  unfold Ytdjpkgaicmklmab.bad2; rw [h.id i hi, h.id 0 (by omega)]; simp
theorem Of.cnt {m : Nat} {b : List UInt8} {l : List (List UInt8)} (h : Of m b l) (i : Nat) (hi : i < l.length) : cntV (l.getD i []) = cntB m b.length := by
  obtain ⟨k, hk, e⟩ := vols_mem (h.all _ (volAt_mem hi))
  rw [e, volB_cnt k _ _ _ (cnt_small m _ h.hm h.hb)]
theorem Of.sum {m : Nat} {b : List UInt8} {l : List (List UInt8)} (h : Of m b l) (i : Nat) (hi : i < l.length) : sumV (l.getD i []) = fourI (crc pSum b) := by
  obtain ⟨k, hk, e⟩ := vols_mem (h.all _ (volAt_mem hi))
  rw [e, volB_sum]

/-- The volumes of some bytes, in any order, make these bytes again. -/
theorem join_perm {m : Nat} {b : List UInt8} {l : List (List UInt8)} (hm : 26 ≤ m) (hb : b.length ≤ 6000) (hp : l.Perm (volsB m b)) : joinRd l = ⟨b, 0, 0⟩ := by
  have hs := cnt_small m _ hm hb
  have h : Of m b l := ⟨fun v hv => hp.mem_iff.mp hv, hm, hb⟩
  have hl : l.length = cntB m b.length := by rw [hp.length_eq, vols_len]
  have h0 : 0 < l.length := by rw [hl]; exact cnt_pos m _ (by omega)
  have hn : (l.map numV).Nodup := (hp.map numV).nodup_iff.mpr (by rw [vols_nums m b hs]; exact List.nodup_range)
  have h1 := h.bad1
  have h2 := h.bad2
  have h3 := nodup_bad3 hn
  have hat : ∀ n, n < l.length → bodyV (l.getD (atV l n) []) = partB m n b := by
    intro n hn'
    have ha := at_lt h1 h2 h3 (by rw [h.cnt 0 h0, hl]) hn'
    obtain ⟨k, hk, e⟩ := vols_mem (h.all _ (volAt_mem ha))
    have hq : numV (l.getD (atV l n) []) = n := by
      have := List.findIdx_getElem (w := ha) (p := fun v => numV v == n)
      rw [List.getD_eq_getElem?_getD, List.getElem?_eq_getElem ha]
      have e2 := of_decide_eq_true (p := numV (l[l.findIdx (fun v => numV v == n)]'ha) = n) (by simpa using this)
      exact e2
    rw [e, volB_num k _ _ _ (by omega)] at hq
    rw [e, volB_body, hq]
  have hA : allV l l.length = b := by
    have : allV l l.length = (List.range l.length).flatMap fun i => partB m i b := by
      unfold allV
      rw [List.flatMap_def, List.flatMap_def]
      congr 1
      apply List.map_congr_left; intro n hn'; exact hat n (List.mem_range.mp hn')
    rw [this, hl, parts_all m b (by omega)]
  unfold joinRd
  rw [firstOf_none.mpr h1, firstOf_none.mpr h2, firstOf_none.mpr h3]
  simp only
  rw [if_neg (by rw [h.cnt 0 h0]; omega), hA, h.sum 0 h0, if_neg (by simp)]

/-- Without one of them they are refused. -/
theorem join_less {m : Nat} {b : List UInt8} {l : List (List UInt8)} (hm : 26 ≤ m) (hb : b.length ≤ 6000) (hp : l.Sublist (volsB m b)) (hl : l.length ≠ cntB m b.length) : joinRd l = ⟨[], 16, 0⟩ := by
  have hs := cnt_small m _ hm hb
  have h : Of m b l := ⟨fun v hv => hp.subset hv, hm, hb⟩
  have hn : (l.map numV).Nodup := List.Nodup.sublist (hp.map numV) (by rw [vols_nums m b hs]; exact List.nodup_range)
  unfold joinRd
  rw [firstOf_none.mpr h.bad1, firstOf_none.mpr h.bad2, firstOf_none.mpr (nodup_bad3 hn)]
  simp only
  rw [if_pos]
  by_cases h0 : l.length = 0
  · exact Or.inl h0
  · right; rw [h.cnt 0 (by omega)]; exact hl

/-- With one twice they are refused, at the second one. -/
theorem join_more {m : Nat} {b v : List UInt8} (hm : 26 ≤ m) (hb : b.length ≤ 6000) (hv : v ∈ volsB m b) : joinRd (volsB m b ++ [v]) = ⟨[], 15, cntB m b.length⟩ := by
  have hs := cnt_small m _ hm hb
  have h : Of m b (volsB m b ++ [v]) := ⟨fun u hu => by rcases List.mem_append.mp hu with hu | hu; exact hu; rw [List.mem_singleton.mp hu]; exact hv, hm, hb⟩
  have hn : ((volsB m b).map numV).Nodup := by rw [vols_nums m b hs]; exact List.nodup_range
  unfold joinRd
  rw [firstOf_none.mpr h.bad1, firstOf_none.mpr h.bad2, (firstOf_some (i := cntB m b.length)).mpr]
  refine ⟨?_, by simp [vols_len], ?_⟩
  · simp only [Ytdjpkgaicmklmab.bad3, ← vols_len, List.take_left', List.any_eq_true, beq_iff_eq]
    exact ⟨v, hv, by simp⟩
  · intro j hj
    have hj' : j < (volsB m b).length := by rw [vols_len]; exact hj
    have := nodup_bad3 hn j hj'
    rw [← this]
    unfold Ytdjpkgaicmklmab.bad3
    rw [List.take_append_of_le_length (by omega), List.getD_eq_getElem?_getD, List.getElem?_append_left hj', ← List.getD_eq_getElem?_getD]

/-- One of them that is no volume any more is told. -/
theorem join_torn {m : Nat} {b v : List UInt8} {i : Nat} (hm : 26 ≤ m) (hb : b.length ≤ 6000) (hi : i < cntB m b.length) (hv : volOk v = false) : joinRd ((volsB m b).set i v) = ⟨[], 13, i⟩ := by
  have h : Of m b (volsB m b) := ⟨fun _ h => h, hm, hb⟩
  unfold joinRd
  rw [(firstOf_some (i := i)).mpr]
  refine ⟨?_, by simp [vols_len, hi], ?_⟩
  · simp [Ytdjpkgaicmklmab.bad1, vols_len, hi, hv]
  · intro j hj
    rw [← h.bad1 j (by rw [vols_len]; omega)]
    simp only [Ytdjpkgaicmklmab.bad1, List.getD_eq_getElem?_getD]
    rw [List.getElem?_set_ne (by omega)]

/-- One of bytes with another sum among them is told; in the first place the one behind it is. -/
theorem join_mixed {m : Nat} {b c : List UInt8} {i : Nat} (hm : 26 ≤ m) (hb : b.length ≤ 6000) (hc : c.length = b.length) (hs : crc pSum b ≠ crc pSum c) (h2 : 1 < cntB m b.length) (hi : i < cntB m b.length) :
    joinRd ((volsB m b).set i ((volsB m c).getD i [])) = ⟨[], 14, if i = 0 then 1 else i⟩ := by
  have hk := cnt_small m _ hm hb
  have hne : fourI (crc pSum b) ≠ fourI (crc pSum c) := fun e => hs (fourI_inj (crc_lt pSum_lt b) (crc_lt pSum_lt c) e)
  have h : Of m b (volsB m b) := ⟨fun _ h => h, hm, hb⟩
  have hcv := vols_get m c i (by rw [hc]; exact hi)
  rw [hc] at hcv
  have hlen : ((volsB m b).set i ((volsB m c).getD i [])).length = cntB m b.length := by simp [vols_len]
  have g0 : ((volsB m b).set i ((volsB m c).getD i [])).getD i [] = volB i (cntB m b.length) (crc pSum c) (partB m i c) := by
    rw [hcv]; simp [vols_len, hi]
  have g1 : ∀ j, j ≠ i → ((volsB m b).set i ((volsB m c).getD i [])).getD j [] = (volsB m b).getD j [] := by
    intro j hj; simp only [List.getD_eq_getElem?_getD]; rw [List.getElem?_set_ne (by omega)]
  have hid : ∀ j, j < cntB m b.length → j ≠ i → idV (((volsB m b).set i ((volsB m c).getD i [])).getD j []) = byt (cntB m b.length : Nat) :: fourI (crc pSum b) := by
    intro j hj hji; rw [g1 j hji, h.id j (by rw [vols_len]; exact hj)]
  have hidi : idV (((volsB m b).set i ((volsB m c).getD i [])).getD i []) = byt (cntB m b.length : Nat) :: fourI (crc pSum c) := by
    rw [g0, volB_id]
  have n1 : ∀ j, j < ((volsB m b).set i ((volsB m c).getD i [])).length → Ytdjpkgaicmklmab.bad1 ((volsB m b).set i ((volsB m c).getD i [])) j = false := by
    intro j hj
    rw [hlen] at hj
    unfold Ytdjpkgaicmklmab.bad1
    by_cases hji : j = i
    · rw [hji, g0, volB_ok i _ _ _ hi hk]; rfl
    · rw [g1 j hji]; exact h.bad1 j (by rw [vols_len]; exact hj)
  unfold joinRd
  rw [firstOf_none.mpr n1, (firstOf_some (i := if i = 0 then 1 else i)).mpr]
  rw [hlen]
  by_cases h0 : i = 0
  · rw [if_pos h0]
    refine ⟨?_, h2, ?_⟩
    · unfold Ytdjpkgaicmklmab.bad2; rw [hid 1 h2 (by omega)]
      have := hidi; rw [h0] at this; rw [h0, this]; simp [hne]
    · intro j hj; unfold Ytdjpkgaicmklmab.bad2; rw [show j = 0 by omega]; simp
  · rw [if_neg h0]
    refine ⟨?_, hi, ?_⟩
    · unfold Ytdjpkgaicmklmab.bad2; rw [hidi, hid 0 (by omega) (fun e => h0 e.symm)]; simp [hne.symm]
    · intro j hj; unfold Ytdjpkgaicmklmab.bad2; rw [hid j (by omega) (by omega), hid 0 (by omega) (fun e => h0 e.symm)]; simp

/-- Some bits turned over within 32 consecutive ones: no volume any more. -/
theorem vol_torn {i n : Nat} {s : Nat} {p v : List UInt8} (a e e' c : List Bool) (hs : allBits (volB i n s p) = a ++ e ++ c) (ht : allBits v = a ++ e' ++ c)
    (hl : e.length = e'.length) (h32 : e.length ≤ 32) (hne : e ≠ e') : volOk v = false := by
  cases hv : volOk v with
  | false => rfl
  | true =>
    exfalso
    simp only [volOk, Bool.and_eq_true, decide_eq_true_eq, beq_iff_eq] at hv
    obtain ⟨⟨⟨h14, _⟩, _⟩, hsum⟩ := hv
    have hv2 : v = v.take (v.length - 4) ++ fourI (crc pSum (v.take (v.length - 4))) := by
      rw [hsum, List.take_append_drop]
    rw [hv2] at ht
    exact hne (torn pSum_lt pSum_odd _ _ a e e' c hs ht hl h32)
end Go.Proofs.Ytdjpkgaicmklmab

/- A list in another order (shuffled): without the program. -/
namespace Go.Proofs.Ytdjpkgaicmklmab
open Go.RowKit

def swapL (l : List (List UInt8)) (a b : Nat) : List (List UInt8) := (l.set a (l.getD b [])).set b (l.getD a [])
theorem swap_len (l : List (List UInt8)) (a b : Nat) : (swapL l a b).length = l.length := by simp [swapL]
theorem swap_perm (l : List (List UInt8)) (a b : Nat) (ha : a < l.length) (hb : b < l.length) : (swapL l a b).Perm l := by
  have ea : l.getD a [] = l[a] := by simp [ha]
  have eb : l.getD b [] = l[b] := by simp [hb]
  have pa : ∀ x, l[a] = x → 0 < l.count x := fun x h => List.count_pos_iff.mpr (h ▸ List.getElem_mem ha)
  rw [List.perm_iff_count]
  intro x
  unfold swapL
  rw [ea, eb, List.count_set (by simpa using hb), List.count_set ha]
  have hg : (l.set a l[b])[b]'(by simpa using hb) = l[b] := by
    rw [List.getElem_set]; split
    · rfl
    · rfl
  rw [hg]
  have := pa x
  by_cases h1 : l[a] = x
  · by_cases h2 : l[b] = x
    · simp [h1, h2]; have := this h1; omega
    · simp [h1, h2]; have := this h1; omega
  · by_cases h2 : l[b] = x
    · simp [h1, h2]
    · simp [h1, h2]
/-- As 'shuffled' does it: the i-th turn changes a chosen place (below the length) with place i mod length. -/
def shufL (f : Nat → Nat) (l : List (List UInt8)) : Nat → List (List UInt8)
  | 0 => l
  | k + 1 => swapL (shufL f l k) (f k) (k % l.length)
theorem shuf_len (f : Nat → Nat) (l : List (List UInt8)) : ∀ k, (shufL f l k).length = l.length
  | 0 => rfl
  | k + 1 => by simp only [shufL]; rw [swap_len, shuf_len f l k]
theorem shuf_perm (f : Nat → Nat) (l : List (List UInt8)) (hf : ∀ k, f k < l.length) : ∀ k, (shufL f l k).Perm l
  | 0 => List.Perm.refl _
  | k + 1 => by
    have h0 : 0 < l.length := Nat.lt_of_le_of_lt (Nat.zero_le _) (hf 0)
    exact (swap_perm _ _ _ (by rw [shuf_len]; exact hf k) (by rw [shuf_len]; exact Nat.mod_lt _ h0)).trans (shuf_perm f l hf k)
end Go.Proofs.Ytdjpkgaicmklmab

/- Numbers read back: plain functions, and the reference's number, numbers, four, walked. -/
namespace Go.Proofs.Ytdjpkgaicmklmab
open Go.RowKit

/-- Bytes are added up till the first below 128. -/
def rdAcc : Nat → Nat → Int → List UInt8 → Option (Int × Nat)
  | 0, _, _, _ => none
  | _ + 1, _, _, [] => none
  | k + 1, i, v, c :: s => if c.toNat < 128 then some (v + ((c.toNat % 128 : Nat) : Int) * 128 ^ i, i + 1) else rdAcc k (i + 1) (v + ((c.toNat % 128 : Nat) : Int) * 128 ^ i) s
/-- The number with which bytes begin, and how many bytes it has. -/
def numRd (s : List UInt8) : Option (Int × Nat) := match rdAcc 9 0 0 s with
  | some (v, n) => if numB v = s.take n then some (v, n) else none
  | none => none
def rdV (x : Option (Int × Nat)) : Value := match x with
  | some (v, n) => .tuple #[.int .i64 v, .int .i64 (n : Nat)]
  | none => .tuple #[.int .i64 0, .int .i64 0]

theorem str_extract (s : List UInt8) (a b : Nat) : (str s).extract a b = str ((s.drop a).take (b - a)) := by
  have : ((str s).extract a b).data = (str ((s.drop a).take (b - a))).data := by
    rw [ByteArray.data_extract]; simp [str]
  cases h : (str s).extract a b
  rw [h] at this
  simp only [str] at this ⊢
  rw [this]
theorem str_at (s : List UInt8) (k : Nat) (h : k < (str s).size) (h2 : k < s.length) : (str s)[k]'h = s[k] := rfl
theorem str_beq (a b : List UInt8) : ((str a).toList == (str b).toList) = (a == b) := by rw [str_toList, str_toList]

theorem pow128 (i : Nat) (h : i ≤ 8) : (128 : Int) ^ i ≤ 72057594037927936 ∧ 0 < (128 : Int) ^ i := by
  have : i = 0 ∨ i = 1 ∨ i = 2 ∨ i = 3 ∨ i = 4 ∨ i = 5 ∨ i = 6 ∨ i = 7 ∨ i = 8 := by omega
  rcases this with rfl | rfl | rfl | rfl | rfl | rfl | rfl | rfl | rfl <;> decide

theorem rdAcc_le : ∀ (k i : Nat) (v : Int) (s : List UInt8) {v' : Int} {n : Nat}, rdAcc k i v s = some (v', n) → i < n ∧ n ≤ i + s.length
  | 0, _, _, _, _, _, h => by simp [rdAcc] at h
  | _ + 1, _, _, [], _, _, h => by simp [rdAcc] at h
  | k + 1, i, v, c :: s, v', n, h => by
    simp only [rdAcc] at h
    split at h
    · simp at h; simp; omega
    · have := rdAcc_le k (i + 1) _ s h; simp; omega
theorem rdAcc_num : ∀ (k i : Nat) (v : Int) (s : List UInt8) {v' : Int} {n : Nat}, rdAcc k i v s = some (v', n) → 0 ≤ v → v < 128 ^ i → i + k ≤ 9 → 0 ≤ v' ∧ v' < 128 ^ 9
  | 0, _, _, _, _, _, h, _, _, _ => by simp [rdAcc] at h
  | _ + 1, _, _, [], _, _, h, _, _, _ => by simp [rdAcc] at h
  | k + 1, i, v, c :: s, v', n, h, h0, h1, hk => by
    have hp := pow128 i (by omega)
    have m0 : 0 ≤ ((c.toNat % 128 : Nat) : Int) * 128 ^ i := Int.mul_nonneg (by omega) (by omega)
    have m1 : ((c.toNat % 128 : Nat) : Int) * 128 ^ i ≤ 127 * 128 ^ i := Int.mul_le_mul_of_nonneg_right (by omega) (by omega)
    simp only [rdAcc] at h
    split at h
    · simp at h
      obtain ⟨rfl, -⟩ := h
      simp only [Int.natCast_emod] at m0 m1
      have e9 : (128 : Int) ^ 9 = 9223372036854775808 := by decide
      rw [e9]
      have e : ((128 : Nat) : Int) = 128 := rfl
      simp only [e] at m0 m1
      generalize (128 : Int) ^ i = q at *
      omega
    · refine rdAcc_num k (i + 1) _ s h (by omega) ?_ (by omega)
      rw [Int.pow_succ]; omega
theorem numRd_le {s : List UInt8} {v : Int} {n : Nat} (h : numRd s = some (v, n)) : 0 < n ∧ n ≤ s.length ∧ Num v ∧ numB v = s.take n := by
  unfold numRd at h
  split at h
  · rename_i v' n' hr
    split at h
    · simp at h
      obtain ⟨rfl, rfl⟩ := h
      rename_i hq
      have h1 := rdAcc_le 9 0 0 s hr
      have h2 := rdAcc_num 9 0 0 s hr (by omega) (by decide) (by omega)
      have e9 : (128 : Int) ^ 9 = 9223372036854775808 := by decide
      rw [e9] at h2
      exact ⟨by omega, by omega, ⟨by omega, by omega⟩, hq⟩
    · cases h
  · cases h

/-- The k numbers with which bytes begin, and what is behind them. -/
def numsRd : Nat → List UInt8 → Option (List Int × List UInt8)
  | 0, s => some ([], s)
  | k + 1, s => match numRd s with
    | none => none
    | some (v, n) => match numsRd k (s.drop n) with
      | none => none
      | some (l, r) => some (v :: l, r)
def pre (a : List Int) (x : Option (List Int × List UInt8)) : Option (List Int × List UInt8) := x.map fun p => (a ++ p.1, p.2)
theorem numsRd_length : ∀ (k : Nat) (s : List UInt8) {l : List Int} {r : List UInt8}, numsRd k s = some (l, r) → l.length = k ∧ r.length ≤ s.length
  | 0, s, l, r, h => by simp [numsRd] at h; obtain ⟨rfl, rfl⟩ := h; simp
  | k + 1, s, l, r, h => by
    simp only [numsRd] at h
    split at h
    · cases h
    · split at h
      · cases h
      · rename_i hh
        simp at h
        obtain ⟨rfl, rfl⟩ := h
        have := numsRd_length k _ hh
        simp at this ⊢
        omega
theorem pre_some (a : List Int) (l : List Int) (r : List UInt8) : pre a (some (l, r)) = some (a ++ l, r) := rfl
theorem numsRd_step {a : List Int} {k : Nat} {s : List UInt8} {v : Int} {n : Nat} (h : numRd s = some (v, n)) : pre a (numsRd (k + 1) s) = pre (a ++ [v]) (numsRd k (s.drop n)) := by
  simp only [numsRd, h]
  cases numsRd k (s.drop n) with
  | none => rfl
  | some p => obtain ⟨l, r⟩ := p; simp [pre]
theorem numsRd_none {a : List Int} {k : Nat} {s : List UInt8} (h : numRd s = none) : pre a (numsRd (k + 1) s) = none := by
  simp only [numsRd, h]; rfl

/-- What numbers answers. -/
def NumsAns (s : List UInt8) (k : Nat) (w : World) (e : Ending) (w' : World) : Prop :=
  match numsRd k s with
  | none => e = .returned (.tuple #[.slice none 0 0, .string ⟨#[]⟩, .bool false])
  | some (l, r) => ∃ ad cap, e = .returned (.tuple #[.slice ad k cap, .string (str r), .bool true]) ∧ Vec w' w.heap.size 3 1 ad k cap (l.map (Value.int .i64))

end Go.Proofs.Ytdjpkgaicmklmab

/- Variables of the call's own that hold a struct: made, read, written, whole or by a field; the world stays a name. -/
namespace Go.Proofs.Ytdjpkgaicmklmab
open Go.RowKit

/-- A variable of the call's own: its block and its cells. -/
structure Bx (w : World) (g e : Nat) (cs : List Value) : Prop where
  h : w.heap[g]? = some (.cells cs.toArray e)

theorem Bx.lt {w : World} {g e : Nat} {cs : List Value} (b : Bx w g e cs) : g < w.heap.size := (Array.getElem?_eq_some_iff.1 b.h).1
theorem Bx.cell {w : World} {g e : Nat} {cs : List Value} (b : Bx w g e cs) (k : Nat) : w.cell? ⟨g, k, none⟩ = cs[k]? := by
  simp [World.cell?, b.h]
theorem Bx.below {w w' : World} {B g e : Nat} {cs : List Value} (b : Bx w g e cs) (hb : Below B w w') (hg : g < B) : Bx w' g e cs := ⟨by rw [hb.block g hg]; exact b.h⟩
theorem Bx.own {w : World} {g e m : Nat} {cs : List Value} (b : Bx w g e cs) (hm : cs.length = m) : Own w g e m [cs] := ⟨by intro r hr; simp at hr; subst hr; exact hm, by simpa using b.h⟩
theorem Own.bx {w : World} {g e m : Nat} {cs : List Value} (b : Own w g e m [cs]) : Bx w g e cs := ⟨by simpa using b.block⟩
theorem Bx.upd {w w' : World} {g g' e : Nat} {cs : List Value} (b : Bx w g e cs) (hu : Upd g' w w') (hg : g ≠ g') : Bx w' g e cs := ((b.own rfl).upd hu hg).bx
theorem Bx.new (w : World) (e : Nat) (cs : Array Value) : Bx (w.alloc (.cells cs e)) w.heap.size e cs.toList := ⟨by show (w.heap.push _)[w.heap.size]? = _; simp⟩
theorem Bx.alloc {w : World} {g e : Nat} {cs : List Value} (b : Bx w g e cs) (o : Obj) : Bx (w.alloc o) g e cs := b.below ((Below.refl w.heap.size w).alloc (Nat.le_refl _) o) b.lt
theorem Bx.drewN {w : World} {g e : Nat} {cs : List Value} (b : Bx w g e cs) (n : Nat) : Bx (w.drewN n) g e cs := ⟨b.h⟩

section
variable {P : Program} {w : World} {ops : Array Oper} {rest : List Oper} {o : Oper} {a : Act} {Q : Exit → Act → World → Prop}

/-- 'var x T': a new variable. -/
theorem wpList_bnew (hgd : o.guard = none) (t : TypeId) (cs : List Value) (hz : ∀ w : World, (execOp a.eval o).run P w = .ok (.value (.pointer (some ⟨w.heap.size, 0, none⟩))) (w.alloc (.cells cs.toArray t)))
    (h : ∀ g w', g = w.heap.size → w'.heap.size = g + 1 → Bx w' g t cs → Below w.heap.size w w' → wpList P ops Q rest (a.put o.dst (.pointer (some ⟨g, 0, none⟩))) w') : wpList P ops Q (o :: rest) a w := by
  refine wpList_plain hgd fun K hK => ?_
  unfold Oper.wp
  rw [hz w]
  exact hK _ _ (h w.heap.size _ rfl (by show (w.heap.push _).size = _; simp) (by have := Bx.new w t cs.toArray; simpa using this) ((Below.refl _ _).alloc (Nat.le_refl _) _))

/-- A parameter's box: '&x' of a struct that was handed in. -/
theorem wpList_bbox (hgd : o.guard = none) (t : TypeId) (x : Operand) (ho : o.op = .box t x) (cs : List Value) (hx : a.eval x = .agg cs.toArray)
    (h : ∀ g w', g = w.heap.size → w'.heap.size = g + 1 → Bx w' g t cs → Below w.heap.size w w' → wpList P ops Q rest (a.put o.dst (.pointer (some ⟨g, 0, none⟩))) w') : wpList P ops Q (o :: rest) a w := by
  refine wpList_plain hgd fun K hK => ?_
  unfold Oper.wp execOp
  simp only [ho, hx, Value.cells, Sem.run_bind, Instr.box, newVar, newRow, run_newObj_alloc, Sem.run_pure, Result.andThen_ok]
  exact hK _ _ (h w.heap.size _ rfl (by show (w.heap.push _).size = _; simp) (by have := Bx.new w t cs.toArray; simpa using this) ((Below.refl _ _).alloc (Nat.le_refl _) _))

/-- The whole of it is read. -/
theorem wpList_bload (hgd : o.guard = none) (t : TypeId) (x : Operand) (ho : o.op = .load t x) (g e : Nat) (hx : a.eval x = .pointer (some ⟨g, 0, none⟩)) (cs : List Value) (hb : Bx w g e cs) (d : TypeDesc)
    (hu : P.underlying t = some d) (hd : (match d with | .struct _ | .array _ _ => true | _ => false) = true) (m : Nat) (hm : cs.length = m) (hi : (P.info? t).map (·.size) = some m)
    (h : wpList P ops Q rest (a.put o.dst (.agg cs.toArray)) w) : wpList P ops Q (o :: rest) a w :=
  wpList_load_row hgd t x ho g hx e cs.toArray _ d hb.h hu hd (by simpa [hm] using hi) h

/-- A field is read. -/
theorem wpList_bget (hgd : o.guard = none) (t : TypeId) (x : Operand) (ho : o.op = .load t x) (g e k : Nat) (hx : a.eval x = .pointer (some ⟨g, k, none⟩)) (cs : List Value) (hb : Bx w g e cs) (v : Value) (hv : cs[k]? = some v) (d : TypeDesc)
    (hu : P.underlying t = some d) (hd : (match d with | .struct _ | .array _ _ => true | _ => false) = false)
    (h : wpList P ops Q rest (a.put o.dst v) w) : wpList P ops Q (o :: rest) a w := by
  refine wpList_plain hgd fun K hK => ?_
  have hagg : (isAgg t).run P w = .ok false w := by
    unfold isAgg
    rw [Sem.run_bind, run_underlying hu w]
    cases d <;> simp_all
  have hc := hb.cell k
  rw [hv] at hc
  have hl : (load ⟨g, k, none⟩).run P w = .ok v w := by rw [run_load, hc]
  unfold Oper.wp execOp
  simp only [ho, hx, Instr.loadAt, Instr.sureAddr, Sem.run_bind, Sem.run_pure, Result.andThen_ok, loadVar, hagg]
  simp [hl, Result.andThen_ok]
  exact hK _ _ h

/-- The whole of it is written. -/
theorem wpList_bstore (hgd : o.guard = none) (p v : Operand) (t : TypeId) (ho : o.op = .store t p v) (g e : Nat) (hp : a.eval p = .pointer (some ⟨g, 0, none⟩)) (cs vs : List Value) (hv : a.eval v = .agg vs.toArray)
    (hb : Bx w g e cs) (m : Nat) (hm : vs.length = m) (hs : (P.info? t).map (·.size) = some m) (hl : cs.length = m) (h1 : ∀ x, x ∈ vs → x.oneCell' = true)
    (h : ∀ w', Bx w' g e vs → Upd g w w' → wpList P ops Q rest (a.put o.dst undef) w') : wpList P ops Q (o :: rest) a w := by
  refine wpList_store_rows hgd p v t ho e m hs g 0 ⟨g, 0, none⟩ (by simp) hp vs hv hm h1 [cs] (hb.own hl) (by simp) ?_
  intro w' ho' hu
  exact h w' (Own.bx (by simpa using ho')) hu

/-- A field is written. -/
theorem wpList_bput (hgd : o.guard = none) (p v : Operand) (t : TypeId) (ho : o.op = .store t p v) (g e k : Nat) (hp : a.eval p = .pointer (some ⟨g, k, none⟩)) (cs : List Value) (x : Value) (hv : a.eval v = x)
    (hb : Bx w g e cs) (hs : (P.info? t).map (·.size) = some 1) (hk : k < cs.length) (h1 : x.oneCell' = true) (hc : x.cells = #[x])
    (h : ∀ w', Bx w' g e (cs.set k x) → Upd g w w' → wpList P ops Q rest (a.put o.dst undef) w') : wpList P ops Q (o :: rest) a w := by
  refine wpList_plain hgd fun K hK => ?_
  have hst := run_storeCells_at P g k e [x] 0 cs.toArray w hb.h (by simp; omega) (by simpa using h1)
  have e2 : cs.toArray.toList.take (k + 0) ++ [x] ++ cs.toArray.toList.drop (k + 0 + [x].length) = cs.set k x := by
    simp [List.set_eq_take_append_cons_drop, hk]
  rw [e2] at hst
  cases hq : P.info? t with
  | none => simp [hq] at hs
  | some inf =>
    have hi' : inf.size = 1 := by simpa [hq] using hs
    unfold Oper.wp
    simp [execOp, ho, hp, hv, Instr.storeAt, Instr.sureAddr, storeVar, sizeOf, typeInfo, hq, hi', hc, hst, Result.andThen]
    exact hK _ _ (h _ ⟨setRow_heap w g _ _ e _ hb.h⟩ (Upd.setRow _ _ _))
end

/-- A call's results of which the first lies in a variable of the call's own. -/
theorem results_box2 {P : Program} {fn : Func} {p q : Nat} {ty : TypeId} (h : fn.results = #[.cell p ty, .tmp q]) (tmps : Array Value) (w : World) (g e : Nat) (cs : List Value) (d : TypeDesc) (v : Value)
    (hp : tmps.getD p undef = .pointer (some ⟨g, 0, none⟩)) (hb : Bx w g e cs) (hq : tmps.getD q undef = v)
    (hu : P.underlying ty = some d) (hd : (match d with | .struct _ | .array _ _ => true | _ => false) = true) (m : Nat) (hm : cs.length = m) (hi : (P.info? ty).map (·.size) = some m) :
    (results fn tmps).run P w = .ok (.tuple #[.agg cs.toArray, v]) w := by
  have hp' : tmps[p]?.getD undef = .pointer (some ⟨g, 0, none⟩) := by simpa using hp
  have hq' : tmps[q]?.getD undef = v := by simpa using hq
  simp [results, h, hp', hq', asAddr, run_loadVar_row w g e ty cs.toArray _ d hb.h hu hd (by simpa [hm] using hi)]
theorem results_box3 {P : Program} {fn : Func} {p q r : Nat} {ty : TypeId} (h : fn.results = #[.cell p ty, .tmp q, .tmp r]) (tmps : Array Value) (w : World) (g e : Nat) (cs : List Value) (d : TypeDesc) (v u : Value)
    (hp : tmps.getD p undef = .pointer (some ⟨g, 0, none⟩)) (hb : Bx w g e cs) (hq : tmps.getD q undef = v) (hr : tmps.getD r undef = u)
    (hu : P.underlying ty = some d) (hd : (match d with | .struct _ | .array _ _ => true | _ => false) = true) (m : Nat) (hm : cs.length = m) (hi : (P.info? ty).map (·.size) = some m) :
    (results fn tmps).run P w = .ok (.tuple #[.agg cs.toArray, v, u]) w := by
  have hp' : tmps[p]?.getD undef = .pointer (some ⟨g, 0, none⟩) := by simpa using hp
  have hq' : tmps[q]?.getD undef = v := by simpa using hq
  have hr' : tmps[r]?.getD undef = u := by simpa using hr
  simp [results, h, hp', hq', hr', asAddr, run_loadVar_row w g e ty cs.toArray _ d hb.h hu hd (by simpa [hm] using hi)]
theorem results_box1 {P : Program} {fn : Func} {p : Nat} {ty : TypeId} (h : fn.results = #[.cell p ty]) (tmps : Array Value) (w : World) (g e : Nat) (cs : List Value) (d : TypeDesc)
    (hp : tmps.getD p undef = .pointer (some ⟨g, 0, none⟩)) (hb : Bx w g e cs)
    (hu : P.underlying ty = some d) (hd : (match d with | .struct _ | .array _ _ => true | _ => false) = true) (m : Nat) (hm : cs.length = m) (hi : (P.info? ty).map (·.size) = some m) :
    (results fn tmps).run P w = .ok (.agg cs.toArray) w :=
  results_cell_row h tmps w g e cs.toArray _ d hp hb.h hu hd (by simpa [hm] using hi)
theorem two_boxes (w : World) (e1 e2 : Nat) (a b : Array Value) : Bx ((w.alloc (.cells a e1)).alloc (.cells b e2)) w.heap.size e1 a.toList ∧ Bx ((w.alloc (.cells a e1)).alloc (.cells b e2)) (w.heap.size + 1) e2 b.toList ∧
    ((w.alloc (.cells a e1)).alloc (.cells b e2)).heap.size = w.heap.size + 2 ∧ Below w.heap.size w ((w.alloc (.cells a e1)).alloc (.cells b e2)) := by
  have hs : (w.alloc (.cells a e1)).heap.size = w.heap.size + 1 := by show (w.heap.push _).size = _; simp
  have h2 := Bx.new (w.alloc (.cells a e1)) e2 b
  rw [hs] at h2
  exact ⟨(Bx.new w e1 a).alloc _, h2, by show ((w.alloc _).heap.push _).size = _; simp [hs], ((Below.refl _ _).alloc (Nat.le_refl _) _).alloc (by rw [hs]; omega) _⟩
theorem one_box (w : World) (e : Nat) (a : Array Value) : Bx (w.alloc (.cells a e)) w.heap.size e a.toList ∧ (w.alloc (.cells a e)).heap.size = w.heap.size + 1 ∧ Below w.heap.size w (w.alloc (.cells a e)) :=
  ⟨Bx.new w e a, by show (w.heap.push _).size = _; simp, (Below.refl _ _).alloc (Nat.le_refl _) _⟩

/-- A list that is not empty lies in such a variable. -/
theorem Vec.bx {w : World} {B e m : Nat} {ad : Option Addr} {n cap : Nat} {xs : List Value} (h : Vec w B e m ad n cap xs) (hn : 0 < n) : ∃ g sp, ad = some ⟨g, 0, none⟩ ∧ B ≤ g ∧ g < w.heap.size ∧ Bx w g e (xs ++ sp) := by
  rcases h.2 with ⟨h2, _⟩ | ⟨g, c, cur, hv, hB, hg, _, _, _, ht⟩
  · omega
  · simp at hv
    refine ⟨g, cur.toList.drop xs.length, hv.1, hB, (Array.getElem?_eq_some_iff.1 hg).1, ⟨?_⟩⟩
    have e : xs ++ cur.toList.drop xs.length = cur.toList := by
      have := List.take_append_drop xs.length cur.toList
      rw [show xs.length = n * m from h.1] at this ⊢
      rw [← this, ht]
      simp [show xs.length = n * m from h.1]
    rw [e, hg]
theorem Vec.upd {w w' : World} {B e m g : Nat} {ad : Option Addr} {n cap : Nat} {xs : List Value} (h : Vec w B e m ad n cap xs) (hu : Upd g w w') (hg : g < B) : Vec w' B e m ad n cap xs := by
  refine ⟨h.1, ?_⟩
  rcases h.2 with h2 | ⟨k, c, cur, hv, hB, hk, r⟩
  · exact Or.inl h2
  · exact Or.inr ⟨k, c, cur, hv, hB, by rw [hu.block k (by omega)]; exact hk, r⟩
end Go.Proofs.Ytdjpkgaicmklmab

/- Records read back: the reference's four and record, walked. -/
namespace Go.Proofs.Ytdjpkgaicmklmab
open Go.RowKit

/-- The number of four bytes. -/
def fourRd (s : List UInt8) : Int := ((s.getD 0 0).toNat : Int) * 16777216 + ((s.getD 1 0).toNat : Int) * 65536 + ((s.getD 2 0).toNat : Int) * 256 + ((s.getD 3 0).toNat : Int)

/-- What bytes are, as a record. -/
def recRd : List UInt8 → Option Fd
  | [] => none
  | c :: s =>
    if c = 4 then match numsRd 1 s with
      | some ([q], r) => if q = 0 then (if r = [] then some (fdHead 0 0) else none) else if r.length = 4 then some (fdHead q (fourRd r)) else none
      | _ => none
    else if c = 1 then match numsRd 2 s with
      | some ([a, b], r) => if r = [] then some (fdClock ⟨a, b⟩) else none
      | _ => none
    else if c = 2 then match numsRd 3 s with
      | some ([a, b, d], g :: t) => if g.toNat ≤ 1 then some (fdCard ⟨a, b, d, g == 1, str t⟩) else none
      | _ => none
    else if c = 3 then match numsRd 1 s with
      | some ([a], t) => some (fdEdit ⟨a, str t⟩)
      | _ => none
    else none

abbrev fdV (f : Fd) : Value := .agg f.cells.toArray
def fd0 : Fd := ⟨0, 0, 0, 0, 0, 0, 0, false, ⟨#[]⟩⟩

/-- What record answers. -/
def RecAns (s : List UInt8) (e : Ending) : Prop := ∃ (f : Fd) (b : Bool), e = .returned (.tuple #[fdV f, .bool b]) ∧ recRd s = if b then some f else none


/-- A record of which the kind alone is known. -/
def fdK (k : Int) : Fd := ⟨0, k, 0, 0, 0, 0, 0, false, ⟨#[]⟩⟩

end Go.Proofs.Ytdjpkgaicmklmab

/- Numbers and sums read back, without the program: when the bytes that were added up are those that are written. -/
namespace Go.Proofs.Ytdjpkgaicmklmab
open Go.RowKit

/-- Digits, the lowest first. -/
def valB : List UInt8 → Int
  | [] => 0
  | c :: s => ((c.toNat % 128 : Nat) : Int) + 128 * valB s
/-- All but the last byte have 128 added. -/
def wfB : List UInt8 → Prop
  | [] => False
  | [c] => c.toNat < 128
  | c :: d :: t => 128 ≤ c.toNat ∧ wfB (d :: t)

theorem valB_nonneg : ∀ l, 0 ≤ valB l
  | [] => by simp [valB]
  | c :: s => by have := valB_nonneg s; simp only [valB]; omega
theorem byt_of (c : UInt8) (n : Int) (h : n = (c.toNat : Int)) : byt n = c := by
  subst h; simp [byt]
theorem numB_wf : ∀ (k : Nat) (l : List UInt8), wfB l → l.length ≤ k + 1 → ((numI k (valB l)).map byt = l ↔ (l.length = 1 ∨ l.getLast? ≠ some 0))
  | k, [], h, _ => h.elim
  | k, [c], h, _ => by
    have h : c.toNat < 128 := h
    have e : valB [c] = (c.toNat : Int) := by simp only [valB]; omega
    rw [e, numI_small k _ (by omega)]
    simp [byt_of c _ rfl]
  | 0, c :: d :: t, h, hl => by simp at hl
  | k + 1, c :: d :: t, h, hl => by
    obtain ⟨h1, h2⟩ := h
    have ih := numB_wf k (d :: t) h2 (by simp at hl ⊢; omega)
    have hn := valB_nonneg (d :: t)
    have hc := c.toNat_lt
    have e : valB (c :: d :: t) = ((c.toNat % 128 : Nat) : Int) + 128 * valB (d :: t) := rfl
    have hlast : (c :: d :: t).getLast? = (d :: t).getLast? := by simp [List.getLast?_cons]
    rw [hlast]
    simp only [numI]
    by_cases hv : valB (c :: d :: t) < 128
    · rw [if_pos hv]
      have h0 : valB (d :: t) = 0 := by omega
      constructor
      · intro h; have := congrArg List.length h; simp at this
      · intro h
        exfalso
        rcases h with h | h
        · simp at h
        · rw [h0] at ih
          have e0 : (numI k 0).map byt = [0] := by rw [numI_small k 0 (by omega)]; rfl
          rw [e0] at ih
          have := ih.2 (Or.inr h)
          rw [← this] at h
          exact h rfl
    · rw [if_neg hv]
      have hq : valB (c :: d :: t) / 128 = valB (d :: t) := by omega
      have hr : valB (c :: d :: t) % 128 + 128 = (c.toNat : Int) := by omega
      rw [hq, hr, List.map_cons, byt_of c _ rfl]
      constructor
      · intro h
        have h' : (numI k (valB (d :: t))).map byt = d :: t := by simpa using h
        rcases ih.1 h' with h3 | h3
        · right
          have ht : t = [] := by simpa using h3
          subst ht
          intro hh
          have hd : d = 0 := by simpa using hh
          subst hd
          have : valB [0] = 0 := rfl
          omega
        · exact Or.inr h3
      · intro h
        have h3 : (d :: t).getLast? ≠ some 0 := by
          rcases h with h | h
          · simp at h
          · exact h
        rw [ih.2 (Or.inr h3)]

theorem rdAcc_val : ∀ (k i : Nat) (v : Int) (s : List UInt8) {v' : Int} {n : Nat}, rdAcc k i v s = some (v', n) → wfB (s.take (n - i)) ∧ v' = v + valB (s.take (n - i)) * 128 ^ i ∧ (s.take (n - i)).length = n - i ∧ i < n ∧ n ≤ i + k
  | 0, _, _, _, _, _, h => by simp [rdAcc] at h
  | _ + 1, _, _, [], _, _, h => by simp [rdAcc] at h
  | k + 1, i, v, c :: s, v', n, h => by
    simp only [rdAcc] at h
    split at h
    · rename_i hc
      simp at h
      obtain ⟨rfl, rfl⟩ := h
      have e1 : i + 1 - i = 1 := by omega
      have : ((c.toNat % 128 : Nat) : Int) = (c.toNat : Int) % 128 := by omega
      rw [e1]
      simp [wfB, valB, hc]
    · rename_i hc
      obtain ⟨h1, h2, h3, h4, h5⟩ := rdAcc_val k (i + 1) _ s h
      have e1 : n - i = (n - (i + 1)) + 1 := by omega
      rw [e1, List.take_succ_cons]
      refine ⟨?_, ?_, by simpa using h3, by omega, by omega⟩
      · cases ht : s.take (n - (i + 1)) with
        | nil => rw [ht] at h1; exact h1.elim
        | cons d t => rw [ht] at h1; exact ⟨by omega, h1⟩
      · rw [h2, valB, Int.pow_succ]
        have : ∀ a b c q : Int, a + b * q + c * (q * 128) = a + (b + 128 * c) * q := by intro a b c q; rw [Int.add_mul]; have : c * (q * 128) = 128 * c * q := by rw [Int.mul_comm 128 c, Int.mul_assoc, Int.mul_comm q 128]
                                                                                        rw [this]; omega
        exact this _ _ _ _

/-- Bytes that were added up are those that are written, but for a needless 0 at the end. -/
theorem numRd_last {s : List UInt8} {v : Int} {i : Nat} (h : rdAcc 9 0 0 s = some (v, i + 1)) (hi : i < s.length) : numRd s = if s[i].toNat % 128 = 0 ∧ 0 < i then none else some (v, i + 1) := by
  obtain ⟨h1, h2, h3, _, h5⟩ := rdAcc_val 9 0 0 s h
  simp only [Nat.sub_zero] at h1 h2 h3
  have hv : v = valB (s.take (i + 1)) := by rw [h2]; simp
  have hw := numB_wf 9 (s.take (i + 1)) h1 (by omega)
  rw [← hv] at hw
  have hlast : (s.take (i + 1)).getLast? = some s[i] := by
    rw [List.getLast?_eq_getElem?, h3]; simp [hi]
  have hlt : s[i].toNat < 128 := by
    have : ∀ l : List UInt8, wfB l → ∀ c, l.getLast? = some c → c.toNat < 128 := by
      intro l
      induction l with
      | nil => intro h; exact h.elim
      | cons a l ih =>
        cases l with
        | nil => intro h c hc; simp at hc; subst hc; exact h
        | cons b l => intro h c hc; exact ih h.2 c (by simpa [List.getLast?_cons] using hc)
    exact this _ h1 _ hlast
  unfold numRd
  rw [h]
  simp only
  rw [hlast, h3] at hw
  unfold numB
  by_cases hz : s[i].toNat % 128 = 0 ∧ 0 < i
  · rw [if_pos hz, if_neg]
    intro hh
    rcases hw.1 hh with h | h
    · omega
    · exact h (by rw [show s[i] = 0 from UInt8.toNat_inj.1 (by show s[i].toNat = 0; omega)])
  · rw [if_neg hz, if_pos]
    refine hw.2 ?_
    by_cases h0 : i = 0
    · left; omega
    · right
      intro hh
      have : s[i] = 0 := by simpa using hh
      rw [this] at hz
      exact hz ⟨rfl, by omega⟩

theorem byt_toNat (n : Int) (h0 : 0 ≤ n) (h1 : n < 256) : ((byt n).toNat : Int) = n := by
  simp [byt]; omega
theorem fourRd_four (n : Int) (h0 : 0 ≤ n) (h1 : n < 4294967296) : fourRd (fourI n) = n := by
  have a := byt_toNat (n / 16777216) (by omega) (by omega)
  have b := byt_toNat (n / 65536 % 256) (by omega) (by omega)
  have c := byt_toNat (n / 256 % 256) (by omega) (by omega)
  have d := byt_toNat (n % 256) (by omega) (by omega)
  simp only [fourRd, fourI, List.getD_cons_zero, List.getD_cons_succ]
  rw [a, b, c, d]
  omega
theorem four_fourRd {s : List UInt8} (h : s.length = 4) : fourI (fourRd s) = s := by
  match s, h with
  | [a, b, c, d], _ =>
    have := a.toNat_lt; have := b.toNat_lt; have := c.toNat_lt; have := d.toNat_lt
    simp only [fourRd, fourI, List.getD_cons_zero, List.getD_cons_succ]
    rw [byt_of a _ (by omega), byt_of b _ (by omega), byt_of c _ (by omega), byt_of d _ (by omega)]
theorem fourRd_iff {s : List UInt8} (h : s.length = 4) (n : Int) (h0 : 0 ≤ n) (h1 : n < 4294967296) : fourRd s = n ↔ fourI n = s := by
  constructor
  · intro e; rw [← e]; exact four_fourRd h
  · intro e; rw [← e]; exact fourRd_four n h0 h1
theorem fourRd_bound {s : List UInt8} (h : s.length = 4) : 0 ≤ fourRd s ∧ fourRd s < 4294967296 := by
  match s, h with
  | [a, b, c, d], _ =>
    have := a.toNat_lt; have := b.toNat_lt; have := c.toNat_lt; have := d.toNat_lt
    simp only [fourRd, List.getD_cons_zero, List.getD_cons_succ]
    omega
end Go.Proofs.Ytdjpkgaicmklmab

/- The program's firstNumber and fromFourBytes, walked. -/
namespace Go.Proofs.Ytdjpkgaicmklmab
open Go.RowKit

set_option maxRecDepth 100000 in
set_option maxHeartbeats 4000000 in
theorem firstNumber_any (s : List UInt8) (w : World) (hs : s.length ≤ 9223372036854775807) :
    Calls Try.prog 109 #[.string (str s)] w fun e w' => e = .returned (rdV (numRd s)) ∧ w' = w := by
  have hz := str_size s
  have HZ : Hid ((str s).size = s.length) := hz
  clear hz
  have hs2 : (str s).size ≤ 9223372036854775807 := by rw [HZ.out]; exact hs
  go_enter Try.func109, Try.ntmps109
  go_wp2
  go_loopw [4, 5, 6] (fun u q _ wr => ∃ (i : Nat) (v : Int), i ≤ 9 ∧ i ≤ (str s).size ∧ q = .int .i64 i ∧ u = .int .i64 v ∧ 0 ≤ v ∧ v < 128 ^ i ∧ rdAcc (9 - i) i v (s.drop i) = rdAcc 9 0 0 s ∧ wr = w) (fun _ q _ _ => 9 - (intOf q).toNat)
  case atStart => exact ⟨0, 0, by omega, by omega, rfl, rfl, by omega, by omega, rfl, rfl⟩
  case round =>
    obtain ⟨i, v, hi9, hi, rfl, rfl, v0, v1, hr, hw⟩ := hrel
    obtain rfl := hw.symm
    have HR : Hid (rdAcc (9 - i) i v (s.drop i) = rdAcc 9 0 0 s) := hr
    clear hr
    by_cases hlt : i < (str s).size
    · by_cases hl9 : i < 9
      · have hlt2 : i < s.length := by rw [← HZ.out]; exact hlt
        have hp := pow128 i (by omega)
        have HV : Hid (v < 128 ^ i) := v1
        clear v1
        have hb := (s[i]).toNat_lt
        have e0 : ((str s)[i]'hlt).toNat = s[i].toNat := rfl
        have hb2 : ((str s)[i]'hlt).toNat < 256 := by rw [e0]; exact hb
        have e2 : wrap64 (((str s)[i]'hlt).toNat : Int) = (((str s)[i]'hlt).toNat : Int) := by unfold wrap64; omega
        have hm0 : ((s[i].toNat % 128 : Nat) : Int) = (s[i].toNat : Int) % 128 := by omega
        have ev : wrap64 (v + wrap64 ((((str s)[i]'hlt).toNat : Int) % 128 * 2 ^ (7 * i))) = v + ((s[i].toNat % 128 : Nat) : Int) * 128 ^ i := by
          have e1 : (2 : Int) ^ (7 * i) = 128 ^ i := by rw [Int.pow_mul]; rfl
          rw [e0, e1, ← hm0]
          have h1 : ((s[i].toNat % 128 : Nat) : Int) * 128 ^ i ≤ 127 * 128 ^ i := Int.mul_le_mul_of_nonneg_right (by omega) (by omega)
          have h0 : 0 ≤ ((s[i].toNat % 128 : Nat) : Int) * 128 ^ i := Int.mul_nonneg (by omega) (by omega)
          have h2 := HV.out
          generalize ((s[i].toNat % 128 : Nat) : Int) * 128 ^ i = m at *
          generalize (128 : Int) ^ i = q at *
          unfold wrap64
          omega
        have hv' : 0 ≤ v + ((s[i].toNat % 128 : Nat) : Int) * 128 ^ i ∧ v + ((s[i].toNat % 128 : Nat) : Int) * 128 ^ i < 128 ^ (i + 1) ∧ v + ((s[i].toNat % 128 : Nat) : Int) * 128 ^ i ≤ 9223372036854775807 := by
          have h1 : ((s[i].toNat % 128 : Nat) : Int) * 128 ^ i ≤ 127 * 128 ^ i := Int.mul_le_mul_of_nonneg_right (by omega) (by omega)
          have h0 : 0 ≤ ((s[i].toNat % 128 : Nat) : Int) * 128 ^ i := Int.mul_nonneg (by omega) (by omega)
          have h2 := HV.out
          rw [Int.pow_succ]
          generalize ((s[i].toNat % 128 : Nat) : Int) * 128 ^ i = m at *
          generalize (128 : Int) ^ i = q at *
          omega
        have hstep : rdAcc 9 0 0 s = if s[i].toNat < 128 then some (v + ((s[i].toNat % 128 : Nat) : Int) * 128 ^ i, i + 1) else rdAcc (9 - (i + 1)) (i + 1) (v + ((s[i].toNat % 128 : Nat) : Int) * 128 ^ i) (s.drop (i + 1)) := by
          rw [← HR.out, List.drop_eq_getElem_cons hlt2, show 9 - i = (9 - (i + 1)) + 1 by omega]
          rfl
        have HS : Hid (rdAcc 9 0 0 s = if s[i].toNat < 128 then some (v + ((s[i].toNat % 128 : Nat) : Int) * 128 ^ i, i + 1) else rdAcc (9 - (i + 1)) (i + 1) (v + ((s[i].toNat % 128 : Nat) : Int) * 128 ^ i) (s.drop (i + 1))) := hstep
        have HE2 : Hid (wrap64 (v + wrap64 ((((str s)[i]'hlt).toNat : Int) % 128 * 2 ^ (7 * i))) = v + ((s[i].toNat % 128 : Nat) : Int) * 128 ^ i) := ev
        clear hstep ev HR hm0 e0
        generalize hV : v + ((s[i].toNat % 128 : Nat) : Int) * 128 ^ i = V at *
        clear hV
        by_cases hc : ((str s)[i]'hlt).toNat < 128
        · have HA : Hid (rdAcc 9 0 0 s = some (V, i + 1)) := by show _ = _; rw [HS.out]; exact if_pos hc
          have HN := numRd_last HA.out hlt2
          have hc' : ¬ (128 ≤ ((str s)[i]'hlt).toNat) := by omega
          by_cases hd : ((str s)[i]'hlt).toNat % 128 = 0
          · have hd' : ((((str s)[i]'hlt).toNat : Int) % 128 == 0) = true := by simp; omega
            by_cases hi0 : 0 < i
            · have HN2 : Hid (numRd s = none) := by show _ = _; rw [HN, if_pos ⟨hd, hi0⟩]
              clear HN HA HS
              go_wp2_with fail
              go_ret2
              exact ⟨by rw [HN2.out]; rfl, by first | rfl | trivial⟩
            · have HN2 : Hid (numRd s = some (V, i + 1)) := by show _ = _; rw [HN, if_neg (fun h => hi0 h.2)]
              clear HN HA HS
              go_wp2_with fail
              go_ret2
              exact ⟨by rw [HN2.out, ← HE2.out]; rfl, by first | rfl | trivial⟩
          · have hd' : ((((str s)[i]'hlt).toNat : Int) % 128 == 0) = false := by rw [beq_eq_false_iff_ne]; omega
            have HN2 : Hid (numRd s = some (V, i + 1)) := by show _ = _; rw [HN, if_neg (fun h => hd h.1)]
            clear HN HA HS
            go_wp2_with fail
            go_ret2
            exact ⟨by rw [HN2.out, ← HE2.out]; rfl, by first | rfl | trivial⟩
        · have HA : Hid (rdAcc (9 - (i + 1)) (i + 1) V (s.drop (i + 1)) = rdAcc 9 0 0 s) := by show _ = _; rw [HS.out]; exact (if_neg hc).symm
          clear HS
          go_wp2_with fail
          rw [HE2.out]
          go_roundw
          case rel => exact ⟨i + 1, V, by omega, by omega, by go_num, rfl, hv'.1, hv'.2.1, HA.out, by first | rfl | trivial⟩
          case measure => simp [intOf]; omega
      · have HN : Hid (numRd s = none) := by
          have : 9 - i = 0 := by omega
          have h := HR.out
          rw [this] at h
          show _ = _; unfold numRd; rw [← h]; rfl
        go_wp2_with fail
        go_ret2
        exact ⟨by rw [HN.out]; rfl, by first | rfl | trivial⟩
    · have HN : Hid (numRd s = none) := by
        have h := HR.out
        rw [List.drop_of_length_le (by rw [← HZ.out]; omega)] at h
        have : rdAcc (9 - i) i v [] = none := by cases 9 - i <;> rfl
        show _ = _; unfold numRd; rw [← h, this]
      go_wp2_with fail
      go_ret2
      exact ⟨by rw [HN.out]; rfl, by first | rfl | trivial⟩
end Go.Proofs.Ytdjpkgaicmklmab

/- The program's fromFourBytes, walked. -/
namespace Go.Proofs.Ytdjpkgaicmklmab
open Go.RowKit

def fold4 (l : List UInt8) : Int := l.foldl (fun n c => n * 256 + (c.toNat : Int)) 0
theorem fold4_four {s : List UInt8} (h : s.length = 4) : fold4 s = fourRd s := by
  match s, h with
  | [a, b, c, d], _ => simp only [fold4, fourRd, List.foldl, List.getD_cons_zero, List.getD_cons_succ]; omega
theorem fold4_step (s : List UInt8) (i : Nat) (h : i < s.length) : fold4 (s.take (i + 1)) = fold4 (s.take i) * 256 + (s[i].toNat : Int) := by
  unfold fold4
  rw [List.take_add_one, List.foldl_append, List.getElem?_eq_getElem h]
  rfl

set_option maxRecDepth 100000 in
set_option maxHeartbeats 4000000 in
theorem fromFour_any (s : List UInt8) (w : World) (hs : s.length = 4) :
    Calls Try.prog 98 #[.string (str s)] w fun e w' => e = .returned (.int .i64 (fourRd s)) ∧ w' = w := by
  have hz : (str s).size = 4 := by rw [str_size, hs]
  have HZ : Hid ((str s).size = 4) := hz
  have hz2 : (str s).size ≤ 4 := by omega
  have hz3 : 4 ≤ (str s).size := by omega
  have HS : Hid (s.length = 4) := hs
  clear hz hs
  go_enter Try.func98, Try.ntmps98
  go_wp2
  go_loopw [3, 4] (fun u q wr => ∃ (i : Nat) (v : Int), i ≤ (str s).size ∧ q = .int .i64 i ∧ u = .int .i64 v ∧ 0 ≤ v ∧ v < 256 ^ i ∧ v = fold4 (s.take i) ∧ wr = w) (fun _ q _ => 4 - (intOf q).toNat)
  case atStart => exact ⟨0, 0, by omega, rfl, rfl, by omega, by omega, rfl, rfl⟩
  case round =>
    obtain ⟨i, v, hi, rfl, rfl, v0, v1, hr, hw⟩ := hrel
    obtain rfl := hw.symm
    have HR : Hid (v = fold4 (s.take i)) := hr
    clear hr
    have hp : (256 : Int) ^ i ≤ 4294967296 ∧ 0 < (256 : Int) ^ i := by
      have : i = 0 ∨ i = 1 ∨ i = 2 ∨ i = 3 ∨ i = 4 := by omega
      rcases this with rfl | rfl | rfl | rfl | rfl <;> decide
    by_cases hlt : i < (str s).size
    · have hlt2 : i < s.length := by have := HS.out; omega
      have hb : ((str s)[i]'hlt).toNat < 256 := (s[i]).toNat_lt
      have hv2 : v * 256 + (((str s)[i]'hlt).toNat : Int) < 256 ^ (i + 1) := by rw [Int.pow_succ]; omega
      have hp2 : (256 : Int) ^ (i + 1) ≤ 4294967296 := by
        have : i = 0 ∨ i = 1 ∨ i = 2 ∨ i = 3 := by omega
        rcases this with rfl | rfl | rfl | rfl <;> decide
      have HN : Hid (v * 256 + (((str s)[i]'hlt).toNat : Int) = fold4 (s.take (i + 1))) := by
        show _ = _; rw [fold4_step s i hlt2, ← HR.out]; rfl
      go_wp2_with fail
      refine ⟨⟨i + 1, _, by omega, by go_num, rfl, by omega, hv2, HN.out, trivial⟩, ?_⟩
      simp [intOf]; omega
    · have HN : Hid (v = fourRd s) := by
        have h := HR.out
        rw [List.take_of_length_le (by have := HS.out; omega), fold4_four HS.out] at h
        exact h
      go_wp2_with fail
      go_ret
      exact ⟨ret_int HN.out, by first | rfl | trivial⟩
end Go.Proofs.Ytdjpkgaicmklmab

/- The program's cursor: what it takes off a record's front, walked. -/
namespace Go.Proofs.Ytdjpkgaicmklmab
open Go.RowKit

/-- A cursor: what is left, and whether it has failed. -/
abbrev Cu := List UInt8 × Bool
abbrev Cu.cells (c : Cu) : List Value := [.string (str c.1), .bool c.2]
abbrev CuAt (w : World) (g : Nat) (c : Cu) : Prop := Bx w g 137 c.cells
def cuNum (c : Cu) : Int × Cu := match numRd c.1 with
  | some (v, n) => (v, c.1.drop n, c.2)
  | none => (0, c.1, true)
def cuFour (c : Cu) : Int × Cu := if c.1.length < 4 then (0, c.1, true) else (fourRd (c.1.take 4), c.1.drop 4, c.2)
def cuEnd (c : Cu) : Cu := if c.1 = [] then c else (c.1, true)
def cuFlag (c : Cu) : Bool × Cu := match c.1 with
  | [] => (false, c.1, true)
  | x :: t => if 1 < x.toNat then (false, c.1, true) else (x == 1, t, c.2)

set_option maxRecDepth 100000 in
set_option maxHeartbeats 4000000 in
theorem cuNum_any (c : Cu) (g : Nat) (w : World) (hc : CuAt w g c) (hs : c.1.length ≤ 9223372036854775807) :
    Calls Try.prog 105 #[.pointer (some ⟨g, 0, none⟩)] w fun e w' => e = .returned (.int .i64 (cuNum c).1) ∧ CuAt w' g (cuNum c).2 ∧ Upd g w w' := by
  obtain ⟨s, d⟩ := c
  have hU : Upd g w w := Upd.refl g w
  have c0 := hc.cell 0
  dsimp only [Cu.cells, List.getElem?_cons_zero] at c0
  go_enter Try.func105, Try.ntmps105
  go_wp2_with fail
  refine (firstNumber_any s _ hs).mono ?_
  rintro e w1 ⟨rfl, rfl⟩
  cases hn : numRd s with
  | none =>
    have HN : Hid (cuNum (s, d) = (0, s, true)) := by show _ = _; simp [cuNum, hn]
    clear hn
    simp only [rdV]
    go_wp2_with (refine wpList_bput (by rfl) _ _ 4 (by rfl) g 137 1 (by rfl) _ (.bool true) (by rfl) hc (by kernel_rfl) (by simp) (by rfl) (by rfl) ?_; intro w9 hc9 hU9; replace hc := hc9; replace hU := hU.trans hU9; clear hc9 hU9 c0; dsimp only [List.set] at hc)
    go_ret
    rw [HN.out]
    exact ⟨rfl, hc, hU⟩
  | some p =>
    obtain ⟨v, n⟩ := p
    obtain ⟨n0, n1, nv, -⟩ := numRd_le hn
    have HN : Hid (cuNum (s, d) = (v, s.drop n, d)) := by show _ = _; simp [cuNum, hn]
    clear hn
    have hnz : ((n : Int) == 0) = false := by simp; omega
    have hle : (n : Int) ≤ ((str s).size : Int) := by rw [str_size]; omega
    have hx : (str s).extract n (str s).size = str (s.drop n) := by rw [str_extract, str_size, List.take_of_length_le (by simp)]
    simp only [rdV]
    go_wp2_with (refine wpList_bput (by rfl) _ _ 9 (by rfl) g 137 0 (by rfl) _ (.string _) (by rfl) hc (by kernel_rfl) (by simp) (by rfl) (by rfl) ?_; intro w9 hc9 hU9; replace hc := hc9; replace hU := hU.trans hU9; clear hc9 hU9 c0; dsimp only [List.set] at hc)
    go_ret
    rw [HN.out]
    exact ⟨rfl, hc, hU⟩

set_option maxRecDepth 100000 in
set_option maxHeartbeats 4000000 in
theorem cuFour_any (c : Cu) (g : Nat) (w : World) (hc : CuAt w g c) (hs : c.1.length ≤ 9223372036854775807) :
    Calls Try.prog 106 #[.pointer (some ⟨g, 0, none⟩)] w fun e w' => e = .returned (.int .i64 (cuFour c).1) ∧ CuAt w' g (cuFour c).2 ∧ Upd g w w' := by
  obtain ⟨s, d⟩ := c
  have hU : Upd g w w := Upd.refl g w
  have c0 := hc.cell 0
  dsimp only [Cu.cells, List.getElem?_cons_zero] at c0
  have hz := str_size s
  have HZ : Hid ((str s).size = s.length) := hz
  by_cases h4 : (str s).size < 4
  · have HN : Hid (cuFour (s, d) = (0, s, true)) := by show _ = _; simp only [cuFour, if_pos (show s.length < 4 by omega)]
    clear hz
    go_enter Try.func106, Try.ntmps106
    go_wp2_with (refine wpList_bput (by rfl) _ _ 4 (by rfl) g 137 1 (by rfl) _ (.bool true) (by rfl) hc (by kernel_rfl) (by simp) (by rfl) (by rfl) ?_; intro w9 hc9 hU9; replace hc := hc9; replace hU := hU.trans hU9; clear hc9 hU9 c0; dsimp only [List.set] at hc)
    go_ret
    rw [HN.out]
    exact ⟨rfl, hc, hU⟩
  · have HN : Hid (cuFour (s, d) = (fourRd (s.take 4), s.drop 4, d)) := by show _ = _; simp only [cuFour, if_neg (show ¬ s.length < 4 by omega)]
    have hle : (4 : Int) ≤ ((str s).size : Int) := by omega
    have hx : (str s).extract 4 (str s).size = str (s.drop 4) := by rw [str_extract, str_size, List.take_of_length_le (by simp)]
    have hx2 : (str s).extract 0 4 = str (s.take 4) := by rw [str_extract]; simp
    have hl4 : (s.take 4).length = 4 := by simp; omega
    clear hz
    go_enter Try.func106, Try.ntmps106
    go_wp2_with fail
    refine (fromFour_any (s.take 4) _ hl4).mono ?_
    rintro e w1 ⟨rfl, rfl⟩
    go_wp2_with (refine wpList_bput (by rfl) _ _ 9 (by rfl) g 137 0 (by rfl) _ (.string _) (by rfl) hc (by kernel_rfl) (by simp) (by rfl) (by rfl) ?_; intro w9 hc9 hU9; replace hc := hc9; replace hU := hU.trans hU9; clear hc9 hU9 c0; dsimp only [List.set] at hc)
    go_ret
    rw [HN.out]
    exact ⟨rfl, hc, hU⟩

set_option maxRecDepth 100000 in
set_option maxHeartbeats 4000000 in
theorem cuEnd_any (c : Cu) (g : Nat) (w : World) (hc : CuAt w g c) :
    Calls Try.prog 107 #[.pointer (some ⟨g, 0, none⟩)] w fun e w' => (∃ v, e = .returned v) ∧ CuAt w' g (cuEnd c) ∧ Upd g w w' := by
  obtain ⟨s, d⟩ := c
  have hU : Upd g w w := Upd.refl g w
  have c0 := hc.cell 0
  dsimp only [Cu.cells, List.getElem?_cons_zero] at c0
  cases s with
  | nil =>
    have hre : (str []).toList.isEmpty = true := by rw [str_toList]; rfl
    have HN : Hid (cuEnd ([], d) = ([], d)) := rfl
    go_enter Try.func107, Try.ntmps107
    go_wp2_with fail
    exact bodyPost_end (results_none rfl _ _ _) rfl ⟨⟨_, rfl⟩, by rw [HN.out]; exact hc, hU⟩
  | cons x t =>
    have hre : (str (x :: t)).toList.isEmpty = false := by rw [str_toList]; rfl
    have HN : Hid (cuEnd (x :: t, d) = (x :: t, true)) := rfl
    go_enter Try.func107, Try.ntmps107
    go_wp2_with (refine wpList_bput (by rfl) _ _ 4 (by rfl) g 137 1 (by rfl) _ (.bool true) (by rfl) hc (by kernel_rfl) (by simp) (by rfl) (by rfl) ?_; intro w9 hc9 hU9; replace hc := hc9; replace hU := hU.trans hU9; clear hc9 hU9 c0; dsimp only [List.set] at hc)
    exact bodyPost_end (results_none rfl _ _ _) rfl ⟨⟨_, rfl⟩, by rw [HN.out]; exact hc, hU⟩

set_option maxRecDepth 100000 in
set_option maxHeartbeats 4000000 in
theorem cuFlag_any (c : Cu) (g : Nat) (w : World) (hc : CuAt w g c) :
    Calls Try.prog 108 #[.pointer (some ⟨g, 0, none⟩)] w fun e w' => e = .returned (.bool (cuFlag c).1) ∧ CuAt w' g (cuFlag c).2 ∧ Upd g w w' := by
  obtain ⟨s, d⟩ := c
  have hU : Upd g w w := Upd.refl g w
  have c0 := hc.cell 0
  dsimp only [Cu.cells, List.getElem?_cons_zero] at c0
  cases s with
  | nil =>
    have hz : (str []).size = 0 := rfl
    have HN : Hid (cuFlag ([], d) = (false, [], true)) := rfl
    go_enter Try.func108, Try.ntmps108
    go_wp2_with (refine wpList_bput (by rfl) _ _ 4 (by rfl) g 137 1 (by rfl) _ (.bool true) (by rfl) hc (by kernel_rfl) (by simp) (by rfl) (by rfl) ?_; intro w9 hc9 hU9; replace hc := hc9; replace hU := hU.trans hU9; clear hc9 hU9 c0; dsimp only [List.set] at hc)
    go_ret
    rw [HN.out]
    exact ⟨rfl, hc, hU⟩
  | cons x t =>
    have hr0 : 0 < (str (x :: t)).size := by rw [str_size]; simp
    have hrx : (str (x :: t)).extract 1 (str (x :: t)).size = str t := by rw [str_extract, str_size]; simp
    have hrl2 : (1 : Int) ≤ ((str (x :: t)).size : Int) := by omega
    by_cases hx : 1 < x.toNat
    · have hk : 1 < ((str (x :: t))[0]'hr0).toNat := by have e : ((str (x :: t))[0]'hr0).toNat = x.toNat := rfl; omega
      have HN : Hid (cuFlag (x :: t, d) = (false, x :: t, true)) := by show _ = _; simp only [cuFlag, if_pos hx]
      go_enter Try.func108, Try.ntmps108
      go_wp2_with (refine wpList_bput (by rfl) _ _ 4 (by rfl) g 137 1 (by rfl) _ (.bool true) (by rfl) hc (by kernel_rfl) (by simp) (by rfl) (by rfl) ?_; intro w9 hc9 hU9; replace hc := hc9; replace hU := hU.trans hU9; clear hc9 hU9 c0; dsimp only [List.set] at hc)
      go_ret
      rw [HN.out]
      exact ⟨rfl, hc, hU⟩
    · by_cases h0 : x = 0
      · subst h0
        have hk : ((str (0 :: t))[0]'hr0).toNat = 0 := rfl
        have HN : Hid (cuFlag (0 :: t, d) = (false, t, d)) := rfl
        go_enter Try.func108, Try.ntmps108
        go_wp2_with (refine wpList_bput (by rfl) _ _ 9 (by rfl) g 137 0 (by rfl) _ (.string _) (by rfl) hc (by kernel_rfl) (by simp) (by rfl) (by rfl) ?_; intro w9 hc9 hU9; replace hc := hc9; replace hU := hU.trans hU9; clear hc9 hU9 c0; dsimp only [List.set] at hc)
        go_ret
        rw [HN.out]
        exact ⟨rfl, hc, hU⟩
      · have hc1 : x = 1 := by have : x.toNat ≠ 0 := fun h => h0 (UInt8.toNat_inj.1 h); exact UInt8.toNat_inj.1 (by show x.toNat = 1; omega)
        subst hc1
        have hk : ((str (1 :: t))[0]'hr0).toNat = 1 := rfl
        have HN : Hid (cuFlag (1 :: t, d) = (true, t, d)) := rfl
        go_enter Try.func108, Try.ntmps108
        go_wp2_with (refine wpList_bput (by rfl) _ _ 9 (by rfl) g 137 0 (by rfl) _ (.string _) (by rfl) hc (by kernel_rfl) (by simp) (by rfl) (by rfl) ?_; intro w9 hc9 hU9; replace hc := hc9; replace hU := hU.trans hU9; clear hc9 hU9 c0; dsimp only [List.set] at hc)
        go_ret
        rw [HN.out]
        exact ⟨rfl, hc, hU⟩
end Go.Proofs.Ytdjpkgaicmklmab

/- The program's takeHead, takeClock, takeCard, takeEdit, foundIn, walked. -/
namespace Go.Proofs.Ytdjpkgaicmklmab
open Go.RowKit

/-- The worlds part in block g alone, and in blocks from B on. -/
structure But (g B : Nat) (w w' : World) : Prop where
  os : w'.os = w.os
  tape : w'.tape = w.tape
  output : w'.output = w.output
  size : w.heap.size ≤ w'.heap.size
  block : ∀ k, k < B → k ≠ g → w'.heap[k]? = w.heap[k]?
theorem But.of_below {g B : Nat} {w w' : World} (h : Below B w w') : But g B w w' := ⟨h.os, h.tape, h.output, h.size, fun k hk _ => h.block k hk⟩
theorem But.upd {g B g' : Nat} {w w1 w2 : World} (h : But g B w w1) (hu : Upd g' w1 w2) (hg : g' = g ∨ B ≤ g') : But g B w w2 :=
  ⟨hu.os.trans h.os, hu.tape.trans h.tape, hu.output.trans h.output, by rw [hu.size]; exact h.size, fun k hk hn => (hu.block k (by omega)).trans (h.block k hk hn)⟩
theorem Bx.but {w w' : World} {g B k e : Nat} {cs : List Value} (b : Bx w k e cs) (h : But g B w w') (hk : k < B) (hn : k ≠ g) : Bx w' k e cs := ⟨by rw [h.block k hk hn]; exact b.h⟩
theorem But.below {g B B' : Nat} {w0 w w' : World} (h : But g B w w') (hb : Below B' w0 w) (h1 : B' ≤ B) (h2 : B' ≤ g) : Below B' w0 w' :=
  ⟨h.os.trans hb.os, h.tape.trans hb.tape, h.output.trans hb.output, Nat.le_trans hb.size h.size, fun k hk => (h.block k (by omega) (by omega)).trans (hb.block k hk)⟩

theorem cuNum_le (c : Cu) : (cuNum c).2.1.length ≤ c.1.length := by
  unfold cuNum; split <;> simp
theorem cuFour_le (c : Cu) : (cuFour c).2.1.length ≤ c.1.length := by
  unfold cuFour; split <;> simp

def tkHead (c : Cu) : Fd × Cu :=
  let a := cuNum c
  let b := if a.1 = 0 then (0, a.2) else cuFour a.2
  (fdHead a.1 b.1, cuEnd b.2)
def tkClock (c : Cu) : Fd × Cu := (fdClock ⟨(cuNum c).1, (cuNum (cuNum c).2).1⟩, cuEnd (cuNum (cuNum c).2).2)
def tkCard (c : Cu) : Fd × Cu :=
  let a := cuNum c
  let b := cuNum a.2
  let d := cuNum b.2
  let f := cuFlag d.2
  (fdCard ⟨a.1, b.1, d.1, f.1, str f.2.1⟩, f.2)
def tkEdit (c : Cu) : Fd × Cu := (fdEdit ⟨(cuNum c).1, str (cuNum c).2.1⟩, (cuNum c).2)

set_option maxRecDepth 100000 in
set_option maxHeartbeats 4000000 in
theorem tkEdit_any (c : Cu) (g : Nat) (w : World) (hc : CuAt w g c) (hs : c.1.length ≤ 9223372036854775807) :
    Calls Try.prog 104 #[.pointer (some ⟨g, 0, none⟩)] w fun e w' => e = .returned (fdV (tkEdit c).1) ∧ CuAt w' g (tkEdit c).2 ∧ But g w.heap.size w w' := by
  have hgl := hc.lt
  obtain ⟨hR, hW, hB⟩ := one_box w 117 fd0.cells.toArray
  replace hc := hc.alloc (.cells fd0.cells.toArray 117)
  have hT : But g w.heap.size w (w.alloc (.cells fd0.cells.toArray 117)) := But.of_below hB
  have l1 := cuNum_le c
  go_enter Try.func104, Try.ntmps104
  go_wp2_with fail
  refine (cuNum_any c g _ hc (by omega)).mono ?_
  rintro e w9 ⟨rfl, hc9, hU9⟩
  replace hR := hR.upd hU9 (by omega)
  replace hT := hT.upd hU9 (Or.inl rfl)
  replace hc := hc9
  clear hc9 hU9
  have c0 := hc.cell 0
  dsimp only [Cu.cells, List.getElem?_cons_zero] at c0
  go_wp2_with (refine wpList_bstore (by rfl) _ _ _ (by rfl) w.heap.size 117 (by rfl) _ _ (by rfl) hR 9 (by rfl) (by kernel_rfl) (by rfl) (by intro x hx; simp at hx; rcases hx with rfl | rfl | rfl | rfl | rfl | rfl | rfl | rfl | rfl <;> rfl) ?_; intro w9 hR9 hU9; replace hR := hR9; replace hc := hc.upd hU9 (by omega); replace hT := hT.upd hU9 (Or.inr (Nat.le_refl _)); clear hR9 hU9)
  exact bodyPost_ret (v := fdV (tkEdit c |>.1)) (results_box1 (by rfl) _ _ w.heap.size 117 _ _ (by rfl) hR Try.underlying117 (by rfl) 9 (by rfl) (by kernel_rfl)) rfl ⟨rfl, hc, hT⟩

set_option maxRecDepth 100000 in
set_option maxHeartbeats 4000000 in
theorem tkClock_any (c : Cu) (g : Nat) (w : World) (hc : CuAt w g c) (hs : c.1.length ≤ 9223372036854775807) :
    Calls Try.prog 102 #[.pointer (some ⟨g, 0, none⟩)] w fun e w' => e = .returned (fdV (tkClock c).1) ∧ CuAt w' g (tkClock c).2 ∧ But g w.heap.size w w' := by
  have hgl := hc.lt
  obtain ⟨hR, hW, hB⟩ := one_box w 117 fd0.cells.toArray
  replace hc := hc.alloc (.cells fd0.cells.toArray 117)
  have hT : But g w.heap.size w (w.alloc (.cells fd0.cells.toArray 117)) := But.of_below hB
  have l1 := cuNum_le c
  have l2 := cuNum_le (cuNum c).2
  go_enter Try.func102, Try.ntmps102
  go_wp2_with fail
  refine (cuNum_any c g _ hc (by omega)).mono ?_
  rintro e w9 ⟨rfl, hc9, hU9⟩
  replace hR := hR.upd hU9 (by omega)
  replace hT := hT.upd hU9 (Or.inl rfl)
  replace hc := hc9
  clear hc9 hU9
  go_wp2_with fail
  refine (cuNum_any (cuNum c).2 g _ hc (by omega)).mono ?_
  rintro e w9 ⟨rfl, hc9, hU9⟩
  replace hR := hR.upd hU9 (by omega)
  replace hT := hT.upd hU9 (Or.inl rfl)
  replace hc := hc9
  clear hc9 hU9
  go_wp2_with fail
  refine (cuEnd_any (cuNum (cuNum c).2).2 g _ hc ).mono ?_
  rintro e w9 ⟨⟨v, rfl⟩, hc9, hU9⟩
  replace hR := hR.upd hU9 (by omega)
  replace hT := hT.upd hU9 (Or.inl rfl)
  replace hc := hc9
  clear hc9 hU9
  go_wp2_with (refine wpList_bstore (by rfl) _ _ _ (by rfl) w.heap.size 117 (by rfl) _ _ (by rfl) hR 9 (by rfl) (by kernel_rfl) (by rfl) (by intro x hx; simp at hx; rcases hx with rfl | rfl | rfl | rfl | rfl | rfl | rfl | rfl | rfl <;> rfl) ?_; intro w9 hR9 hU9; replace hR := hR9; replace hc := hc.upd hU9 (by omega); replace hT := hT.upd hU9 (Or.inr (Nat.le_refl _)); clear hR9 hU9)
  exact bodyPost_ret (v := fdV (tkClock c |>.1)) (results_box1 (by rfl) _ _ w.heap.size 117 _ _ (by rfl) hR Try.underlying117 (by rfl) 9 (by rfl) (by kernel_rfl)) rfl ⟨rfl, hc, hT⟩

set_option maxRecDepth 100000 in
set_option maxHeartbeats 4000000 in
theorem tkCard_any (c : Cu) (g : Nat) (w : World) (hc : CuAt w g c) (hs : c.1.length ≤ 9223372036854775807) :
    Calls Try.prog 103 #[.pointer (some ⟨g, 0, none⟩)] w fun e w' => e = .returned (fdV (tkCard c).1) ∧ CuAt w' g (tkCard c).2 ∧ But g w.heap.size w w' := by
  have hgl := hc.lt
  obtain ⟨hR, hW, hB⟩ := one_box w 117 fd0.cells.toArray
  replace hc := hc.alloc (.cells fd0.cells.toArray 117)
  have hT : But g w.heap.size w (w.alloc (.cells fd0.cells.toArray 117)) := But.of_below hB
  have l1 := cuNum_le c
  have l2 := cuNum_le (cuNum c).2
  have l3 := cuNum_le (cuNum (cuNum c).2).2
  go_enter Try.func103, Try.ntmps103
  go_wp2_with fail
  refine (cuNum_any c g _ hc (by omega)).mono ?_
  rintro e w9 ⟨rfl, hc9, hU9⟩
  replace hR := hR.upd hU9 (by omega)
  replace hT := hT.upd hU9 (Or.inl rfl)
  replace hc := hc9
  clear hc9 hU9
  go_wp2_with fail
  refine (cuNum_any (cuNum c).2 g _ hc (by omega)).mono ?_
  rintro e w9 ⟨rfl, hc9, hU9⟩
  replace hR := hR.upd hU9 (by omega)
  replace hT := hT.upd hU9 (Or.inl rfl)
  replace hc := hc9
  clear hc9 hU9
  go_wp2_with fail
  refine (cuNum_any (cuNum (cuNum c).2).2 g _ hc (by omega)).mono ?_
  rintro e w9 ⟨rfl, hc9, hU9⟩
  replace hR := hR.upd hU9 (by omega)
  replace hT := hT.upd hU9 (Or.inl rfl)
  replace hc := hc9
  clear hc9 hU9
  go_wp2_with fail
  refine (cuFlag_any (cuNum (cuNum (cuNum c).2).2).2 g _ hc ).mono ?_
  rintro e w9 ⟨rfl, hc9, hU9⟩
  replace hR := hR.upd hU9 (by omega)
  replace hT := hT.upd hU9 (Or.inl rfl)
  replace hc := hc9
  clear hc9 hU9
  have c0 := hc.cell 0
  dsimp only [Cu.cells, List.getElem?_cons_zero] at c0
  go_wp2_with (refine wpList_bstore (by rfl) _ _ _ (by rfl) w.heap.size 117 (by rfl) _ _ (by rfl) hR 9 (by rfl) (by kernel_rfl) (by rfl) (by intro x hx; simp at hx; rcases hx with rfl | rfl | rfl | rfl | rfl | rfl | rfl | rfl | rfl <;> rfl) ?_; intro w9 hR9 hU9; replace hR := hR9; replace hc := hc.upd hU9 (by omega); replace hT := hT.upd hU9 (Or.inr (Nat.le_refl _)); clear hR9 hU9)
  exact bodyPost_ret (v := fdV (tkCard c |>.1)) (results_box1 (by rfl) _ _ w.heap.size 117 _ _ (by rfl) hR Try.underlying117 (by rfl) 9 (by rfl) (by kernel_rfl)) rfl ⟨rfl, hc, hT⟩

set_option maxRecDepth 100000 in
set_option maxHeartbeats 4000000 in
theorem tkHead_any (c : Cu) (g : Nat) (w : World) (hc : CuAt w g c) (hs : c.1.length ≤ 9223372036854775807) :
    Calls Try.prog 101 #[.pointer (some ⟨g, 0, none⟩)] w fun e w' => e = .returned (fdV (tkHead c).1) ∧ CuAt w' g (tkHead c).2 ∧ But g w.heap.size w w' := by
  have hgl := hc.lt
  obtain ⟨hR, hW, hB⟩ := one_box w 117 fd0.cells.toArray
  replace hc := hc.alloc (.cells fd0.cells.toArray 117)
  have hT : But g w.heap.size w (w.alloc (.cells fd0.cells.toArray 117)) := But.of_below hB
  have l1 := cuNum_le c
  have l2 := cuFour_le (cuNum c).2
  go_enter Try.func101, Try.ntmps101
  go_wp2_with fail
  refine (cuNum_any c g _ hc (by omega)).mono ?_
  rintro e w9 ⟨rfl, hc9, hU9⟩
  replace hR := hR.upd hU9 (by omega)
  replace hT := hT.upd hU9 (Or.inl rfl)
  replace hc := hc9
  clear hc9 hU9
  by_cases hq : (cuNum c).1 = 0
  · have hqb : ((cuNum c).1 != 0) = false := by rw [hq]; rfl
    have HK : Hid (tkHead c = (fdHead (cuNum c).1 0, cuEnd (cuNum c).2)) := by show _ = _; unfold tkHead; simp only [if_pos hq]
    clear hq
    go_wp2_with fail
    refine (cuEnd_any (cuNum c).2 g _ hc ).mono ?_
    rintro e w9 ⟨⟨v, rfl⟩, hc9, hU9⟩
    replace hR := hR.upd hU9 (by omega)
    replace hT := hT.upd hU9 (Or.inl rfl)
    replace hc := hc9
    clear hc9 hU9
    go_wp2_with (refine wpList_bstore (by rfl) _ _ _ (by rfl) w.heap.size 117 (by rfl) _ _ (by rfl) hR 9 (by rfl) (by kernel_rfl) (by rfl) (by intro x hx; simp at hx; rcases hx with rfl | rfl | rfl | rfl | rfl | rfl | rfl | rfl | rfl <;> rfl) ?_; intro w9 hR9 hU9; replace hR := hR9; replace hc := hc.upd hU9 (by omega); replace hT := hT.upd hU9 (Or.inr (Nat.le_refl _)); clear hR9 hU9)
    rw [HK.out]
    exact bodyPost_ret (v := fdV (fdHead (cuNum c).1 0)) (results_box1 (by rfl) _ _ w.heap.size 117 _ _ (by rfl) hR Try.underlying117 (by rfl) 9 (by rfl) (by kernel_rfl)) rfl ⟨rfl, hc, hT⟩
  · have hqb : ((cuNum c).1 != 0) = true := by rw [bne_iff_ne]; exact hq
    have HK : Hid (tkHead c = (fdHead (cuNum c).1 (cuFour (cuNum c).2).1, cuEnd (cuFour (cuNum c).2).2)) := by show _ = _; unfold tkHead; simp only [if_neg hq]
    clear hq
    go_wp2_with fail
    refine (cuFour_any (cuNum c).2 g _ hc (by omega)).mono ?_
    rintro e w9 ⟨rfl, hc9, hU9⟩
    replace hR := hR.upd hU9 (by omega)
    replace hT := hT.upd hU9 (Or.inl rfl)
    replace hc := hc9
    clear hc9 hU9
    go_wp2_with fail
    refine (cuEnd_any (cuFour (cuNum c).2).2 g _ hc ).mono ?_
    rintro e w9 ⟨⟨v, rfl⟩, hc9, hU9⟩
    replace hR := hR.upd hU9 (by omega)
    replace hT := hT.upd hU9 (Or.inl rfl)
    replace hc := hc9
    clear hc9 hU9
    go_wp2_with (refine wpList_bstore (by rfl) _ _ _ (by rfl) w.heap.size 117 (by rfl) _ _ (by rfl) hR 9 (by rfl) (by kernel_rfl) (by rfl) (by intro x hx; simp at hx; rcases hx with rfl | rfl | rfl | rfl | rfl | rfl | rfl | rfl | rfl <;> rfl) ?_; intro w9 hR9 hU9; replace hR := hR9; replace hc := hc.upd hU9 (by omega); replace hT := hT.upd hU9 (Or.inr (Nat.le_refl _)); clear hR9 hU9)
    rw [HK.out]
    exact bodyPost_ret (v := fdV (fdHead (cuNum c).1 (cuFour (cuNum c).2).1)) (results_box1 (by rfl) _ _ w.heap.size 117 _ _ (by rfl) hR Try.underlying117 (by rfl) 9 (by rfl) (by kernel_rfl)) rfl ⟨rfl, hc, hT⟩
end Go.Proofs.Ytdjpkgaicmklmab

