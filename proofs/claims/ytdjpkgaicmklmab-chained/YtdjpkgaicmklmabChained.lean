/- Called with any writes and numbers whatever, parcelkeep.Chained answers true: a chain that is extended step by step as more writes are seen, its bundles in any order at each step, is replayed to the replica that was handed in last, and an older one is refused. No condition beside the form's own (what is read takes at most 2^47 - 4096 bytes a list). -/
import Derived.Test.YtdjpkgaicmklmabPartChained0
import Derived.Test.YtdjpkgaicmklmabPartChained2
import Derived.Test.YtdjpkgaicmklmabFN
namespace Go.Proofs.Ytdjpkgaicmklmab
open Go.ChangeShapes Go.WideShapes Go.ChangeAt Go.RowKit

set_option maxRecDepth 100000 in
theorem chained_lifted (os : Os) (started : os.Started) (H : Type) (enc : TypeId × Value → H) :
    ReturnsInHanded {} Try.checked os 7 .any (Rows.chainedSpec.pre6 enc Try.prog Try.f7 Rows.chainedRow.domain false) (Rows.chainedSpec.post enc Try.prog Try.f7 false true false false) := by
  refine returnsInHanded_of_change_sized (C := Try.checked) Try.own started (by kernel_rfl) Try.func7
    (ChangeSpec.witness6 (enc := enc) (C := Try.checked) false ⟨#[], #[.slice none 0 0, .slice none 0 0, .slice none 0 0, .slice none 0 0], []⟩ 8 (by kernel_rfl) (by kernel_rfl) (by kernel_rfl) (by kernel_rfl)) ?_
  intro W base args ds gs before hval0 hW hcnd hsz0 _
  have hval : ∀ (j : Nat) t v, Try.f7.params[j]? = some t → args[j]? = some v → Value.okWide Try.prog W .any base t v := hval0
  have hsz : (DataW.weightsEach Try.prog (Try.f7.params.toList ++ Rows.chainedSpec.plain.varTypes Try.prog) (ds ++ gs)).all (· ≤ reachBytes) = true := hsz0
  have hW' := hW
  obtain ⟨p, q, hA0, hV, rfl, hfz, hnd⟩ := hW
  have hA : DataW.TrodAll enc Try.prog W 0 (fun _ => true) true Try.f7.params.toList args.toList ds p := hA0
  rw [Try.params7] at hA hval hsz
  obtain ⟨v0, v1, v2, v3, d0, d1, d2, d3, p0, p1, p2, p3, rfl, rfl, rfl, h0, h1, h2, h3⟩ := trod4 hA
  obtain ⟨rfl, rfl⟩ := trodVars_none hV
  clear hA0 hval0 hsz0
  have hwt : ∀ (j : Nat) (t : TypeId) (d : DataW H), [22, 23, 22, 23][j]? = some t → [d0, d1, d2, d3][j]? = some d → ∀ q, q ∈ d.weights Try.prog t → q ≤ reachBytes := fun j t d ht hd q hq => by
    have := List.all_eq_true.1 hsz q (DataW.weights_mem_each (j := j) (t := t) (d := d) ht hd q hq)
    simpa using this
  obtain ⟨a0, n0, c0, f0, rfl, l0, k0⟩ := open_writes (hval 0 _ _ rfl rfl) h0 (hwt 0 _ _ rfl rfl)
  obtain ⟨a1, n1, c1, f1, rfl, l1⟩ := open_nums (hval 1 _ _ rfl rfl) h1 (hwt 1 _ _ rfl rfl)
  obtain ⟨a2, n2, c2, f2, rfl, l2, k2⟩ := open_writes (hval 2 _ _ rfl rfl) h2 (hwt 2 _ _ rfl rfl)
  obtain ⟨a3, n3, c3, f3, rfl, l3⟩ := open_nums (hval 3 _ _ rfl rfl) h3 (hwt 3 _ _ rfl rfl)
  simp only [List.append_nil] at hW'
  have hlt : ∀ x ∈ p0 ++ (p1 ++ (p2 ++ p3)), x.block < W.heap.size := fun x hx => hW'.lt x hx
  simp only [List.mem_append] at hlt
  refine (chained_any n0 n1 n2 n3 f0 f2 f1 f3 a0 a1 a2 a3 c0 c1 c2 c3 W l0 l1 l2 l3 k0).mono fun e W' ⟨he, hb⟩ => ?_
  subst he
  exact ⟨_, rfl, _, _, _, [], _, [], hW', trodAll_mk1 (shut_bool Try.underlying4 _),
    trodAll_mk4 (Below.trod Try.laidOut (by kernel_rfl) (of_decide_eq_true (by kernel_rfl)) h0 hb (fun x hx => hlt x (Or.inl hx))) (Below.trod Try.laidOut (by kernel_rfl) (of_decide_eq_true (by kernel_rfl)) h1 hb (fun x hx => hlt x (Or.inr (Or.inl hx))))
      (Below.trod Try.laidOut (by kernel_rfl) (of_decide_eq_true (by kernel_rfl)) h2 hb (fun x hx => hlt x (Or.inr (Or.inr (Or.inl hx))))) (Below.trod Try.laidOut (by kernel_rfl) (of_decide_eq_true (by kernel_rfl)) h3 hb (fun x hx => hlt x (Or.inr (Or.inr (Or.inr hx))))), rfl, hb.frame _, fun h => by cases h⟩

theorem chained_holds : Rows.ChainedSaid :=
  OpenClaim.holds_of_wide 7 Try.f7 rfl rfl rfl rfl rfl rfl rfl ⟨rfl, rfl, rfl, rfl, rfl⟩ rfl rfl rfl rfl rfl (by kernel_rfl) Try.func7 (by kernel_rfl)
    (of_decide_eq_true (by kernel_rfl)) (by unfold Func.isWrapper; first | (rw [if_pos (by decide +kernel)]; kernel_rfl) | (rw [if_neg (by decide +kernel)]; exact ⟨rfl, rfl⟩))
    (fun os started H enc _ => chained_lifted os started H enc)

end Go.Proofs.Ytdjpkgaicmklmab

