/- Bytes and strings: a row of bytes made into a string. -/
import Derived.Test.YtmafnghokmcijaaD
namespace Go.Proofs.Ytmafnghokmcijaa
open Go.RowKit

/-- The bytes of numbers. -/
def byt (n : Int) : UInt8 := UInt8.ofNat n.toNat
def str (l : List UInt8) : ByteArray := ⟨l.toArray⟩

theorem str_append (a b : List UInt8) : str a ++ str b = str (a ++ b) := ByteArray.mk_append_mk a b
theorem str_size (a : List UInt8) : (str a).size = a.length := by simp [str, ByteArray.size]
theorem str_toList (a : List UInt8) : (str a).toList = a := by rw [ByteArray.toList_eq]; rfl
theorem str_data (s : ByteArray) : str s.data.toList = s := by cases s; simp [str]
theorem str_inj {a b : List UInt8} (h : str a = str b) : a = b := by
  have := congrArg (fun s : ByteArray => s.data.toList) h
  simpa [str] using this

theorem foldl_push (ns : List Int) : ∀ s : List UInt8, ns.foldl (fun r n => r.push (UInt8.ofNat n.toNat)) (str s) = str (s ++ ns.map byt) := by
  induction ns with
  | nil => intro s; simp
  | cons n ns ih =>
    intro s
    have e : (str s).push (UInt8.ofNat n.toNat) = str (s ++ [byt n]) := by
      simp [str, ByteArray.push, byt]
    simp only [List.foldl_cons, e, ih, List.map_cons]
    congr 1; simp

section
variable {P : Program} {w : World} {ops : Array Oper} {rest : List Oper} {o : Oper} {a : Act} {Q : Exit → Act → World → Prop}

theorem run_toString (w : World) (src dst e : TypeId) (ad : Addr) (len cap : Nat) (ns : List Int) (hs : P.underlying src = some (.slice e)) (he : P.underlying e = some (.int .u8)) (hd : P.underlying dst = some .string)
    (hl : ns.length = len) (hc : ∀ j v, (ns.map (Value.int .u8))[j]? = some v → w.cell? (ad.add j) = some v) :
    (convert src dst (.slice (some ad) len cap)).run P w = .ok (.string (str (ns.map byt))) w := by
  rw [run_convert_bytes_string w src dst e _ _ _ hs he hd]
  have hload : (loadCells ad len).run P w = .ok (ns.map (Value.int .u8)).toArray w := by
    have := run_loadCells_list (P := P) w ad (ns.map (Value.int .u8)) hc
    simpa [hl] using this
  rw [run_bytesToString w ad len cap ns hload]
  have := foldl_push ns []
  simp only [List.nil_append] at this
  rw [← this]; rfl

/-- 'string(b)'. -/
theorem wpList_toString (hgd : o.guard = none) (src dst e : TypeId) (x : Operand) (ho : o.op = .convert src dst x) (hs : P.underlying src = some (.slice e)) (he : P.underlying e = some (.int .u8)) (hd : P.underlying dst = some .string)
    (ad : Addr) (len cap : Nat) (hx : a.eval x = .slice (some ad) len cap) (ns : List Int) (hl : ns.length = len) (hc : ∀ j v, (ns.map (Value.int .u8))[j]? = some v → w.cell? (ad.add j) = some v)
    (h : wpList P ops Q rest (a.put o.dst (.string (str (ns.map byt)))) w) : wpList P ops Q (o :: rest) a w := by
  refine wpList_plain hgd fun K hK => ?_
  have hrun := run_toString (P := P) w src dst e ad len cap ns hs he hd hl hc
  unfold Oper.wp
  simp [execOp, ho, hx, hrun, Result.andThen]
  exact hK _ _ h
end
end Go.Proofs.Ytmafnghokmcijaa
