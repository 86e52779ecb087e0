/-
  Layer 3's functions: Seal, Open, All. what they are to answer, said ahead of their proofs. Conditions: none.
-/
import Derived.Test.YtfdhckfpkhoheaaDoorFrameRef
namespace Go.Proofs.YtfdhckfpkhoheaaDoor.Frame
open Go.RowKit Go.Proofs.YtfdhckfpkhoheaaDoor.Mem Go.Proofs.YtfdhckfpkhoheaaDoor.Crc Go.Proofs.YtfdhckfpkhoheaaDoor.Wire

/-- What Seal answers of a payload. -/
def sealE (p : List UInt8) : Value := if 4096 < p.length then .tuple #[.string ⟨#[]⟩, .int .i64 5] else .tuple #[.string ⟨(frm p).toArray⟩, .int .i64 0]
/-- What Open answers. -/
def openE (s : ByteArray) : Value := if err s.data.toList = 0 then .tuple #[.string ⟨(payload s.data.toList).toArray⟩, .string ⟨(s.data.toList.drop (6 + flen s.data.toList)).toArray⟩, .int .i64 0] else .tuple #[.string ⟨#[]⟩, .string ⟨#[]⟩, .int .i64 (err s.data.toList)]

/-- What the code of layer 3 is to do (proved in FrameImpl, which alone hangs on its text). -/
structure Does : Prop where
  seals : ∀ (A : Option Addr) (ss : List ByteArray) (c : Nat) (w : World), Strs w A ss → ss.length ≤ 1000 → (cat ss).length ≤ 140737488355328 → Cap A ss.length c → Tab w →
    Calls Tryd.prog 28 #[.slice A ss.length c] w fun e w' => e = .returned (sealE (cat ss)) ∧ Below w.heap.size w w'
  all : ∀ (s : ByteArray) (w : World), s.size ≤ 2000000 → Tab w →
    Calls Tryd.prog 15 #[.string s] w fun e w' => ∃ v, e = .returned (.tuple #[v, .int .i64 ((fr s.data.toList).2 : Nat)]) ∧ Txt w' w.heap.size v (texts (fr s.data.toList).1) ∧ Below w.heap.size w w'

end Go.Proofs.YtfdhckfpkhoheaaDoor.Frame
