/-
  No cell of these rows narrows 'for every input' (looked for: loops, veiled, ifaces, maps, wideKeys, modest, calm, conditions, laid).
  DERIVED. THE GIVEN ROWS OF THIS SEAT. 4 by the template 'for every input the law returns true; each argument reads behind the call as it read before'; 0 by the template 'total and deterministic' (their statements: YtbchgnlfkcgklaaTotals.lean).
  GIVEN WITH THE SEED: the statements are not yours to turn. If you find one false, say at which input.
  Laid BY PROGRAM, IN A SANDBOX (cutbox-rows.mjs): the forced cells as the released guide's own fill.sh prints them over the translation a774d72a7c97cd68… (all of the seat's roots in one cut). By AI agents, Wed Nov 11 2026. No macro, syntax, notation, axiom, sorry.
-/
import Derived.Test.YtbchgnlfkcgklaaChecked
import GoSem.Claim
import GoSem.ClaimJoined
import GoSem.ClaimMapViews
import Derived.JoinedTies
import Derived.KernelRfl
namespace Go.Proofs.Ytbchgnlfkcgklaa
/- THE CELL 'sum', in the pinned program and in every row, IS THE sha256 OF THE DUMP (.gsa) THAT YtbchgnlfkcgklaaProg.lean LOADS. Nothing in Lean hashes anything: it is a label: what it is worth is what the hold of that sum in a sandbox is worth. -/
noncomputable def Try.pinned : Pinned := { name := "ytbchgnlfkcgklaa", sum := "a774d72a7c97cd6855062a4bb54c83104b0f6bb7e74b039b7caa4e605053a541", checked := Try.checked }
namespace Rows
def none {H : Type} : Left H := { results := [], args := [] }

/-- 'remudalaw15.SpanTrees': WHATEVER THE INPUT: true; the input reads as it did. -/
def spanTreesSpec : ChangeSpec := { name := "spanTrees", fn := fun _ => fun
  | [d1, d2] => { results := [.lit (.bool true)], args := [d1, d2] }
  | _ => none }
def spanTreesRow : OpenClaim := { program := "ytbchgnlfkcgklaa", sum := "a774d72a7c97cd6855062a4bb54c83104b0f6bb7e74b039b7caa4e605053a541", func := "remuda/remudalaw15.SpanTrees", spec := "spanTrees", apart := false }
def SpanTreesSaid : Prop := spanTreesRow.holds Try.pinned (OpenSpec.ofChange spanTreesSpec)

/-- ITS FALSE NEIGHBOUR: 'it returns false'. Refute it at one input. -/
def spanTreesWrong : ChangeSpec := { name := "spanTrees", fn := fun _ => fun
  | [d1, d2] => { results := [.lit (.bool false)], args := [d1, d2] }
  | _ => none }
def SpanTreesWrongFalsely : Prop := spanTreesRow.holds Try.pinned (OpenSpec.ofChange spanTreesWrong)

/-- 'remudalaw15.SpanPaths': WHATEVER THE INPUT: true; the input reads as it did. -/
def spanPathsSpec : ChangeSpec := { name := "spanPaths", fn := fun _ => fun
  | [d1, d2, d3] => { results := [.lit (.bool true)], args := [d1, d2, d3] }
  | _ => none }
def spanPathsRow : OpenClaim := { program := "ytbchgnlfkcgklaa", sum := "a774d72a7c97cd6855062a4bb54c83104b0f6bb7e74b039b7caa4e605053a541", func := "remuda/remudalaw15.SpanPaths", spec := "spanPaths", apart := false }
def SpanPathsSaid : Prop := spanPathsRow.holds Try.pinned (OpenSpec.ofChange spanPathsSpec)

/-- ITS FALSE NEIGHBOUR: 'it returns false'. Refute it at one input. -/
def spanPathsWrong : ChangeSpec := { name := "spanPaths", fn := fun _ => fun
  | [d1, d2, d3] => { results := [.lit (.bool false)], args := [d1, d2, d3] }
  | _ => none }
def SpanPathsWrongFalsely : Prop := spanPathsRow.holds Try.pinned (OpenSpec.ofChange spanPathsWrong)

/-- 'remudalaw15.SpanLeads': WHATEVER THE INPUT: true; the input reads as it did. -/
def spanLeadsSpec : ChangeSpec := { name := "spanLeads", fn := fun _ => fun
  | [d1, d2, d3] => { results := [.lit (.bool true)], args := [d1, d2, d3] }
  | _ => none }
def spanLeadsRow : OpenClaim := { program := "ytbchgnlfkcgklaa", sum := "a774d72a7c97cd6855062a4bb54c83104b0f6bb7e74b039b7caa4e605053a541", func := "remuda/remudalaw15.SpanLeads", spec := "spanLeads", apart := false }
def SpanLeadsSaid : Prop := spanLeadsRow.holds Try.pinned (OpenSpec.ofChange spanLeadsSpec)

/-- ITS FALSE NEIGHBOUR: 'it returns false'. Refute it at one input. -/
def spanLeadsWrong : ChangeSpec := { name := "spanLeads", fn := fun _ => fun
  | [d1, d2, d3] => { results := [.lit (.bool false)], args := [d1, d2, d3] }
  | _ => none }
def SpanLeadsWrongFalsely : Prop := spanLeadsRow.holds Try.pinned (OpenSpec.ofChange spanLeadsWrong)

/-- 'remudalaw15.SpanBack': WHATEVER THE INPUT: true; the input reads as it did. -/
def spanBackSpec : ChangeSpec := { name := "spanBack", fn := fun _ => fun
  | [d1, d2, d3] => { results := [.lit (.bool true)], args := [d1, d2, d3] }
  | _ => none }
def spanBackRow : OpenClaim := { program := "ytbchgnlfkcgklaa", sum := "a774d72a7c97cd6855062a4bb54c83104b0f6bb7e74b039b7caa4e605053a541", func := "remuda/remudalaw15.SpanBack", spec := "spanBack", apart := false }
def SpanBackSaid : Prop := spanBackRow.holds Try.pinned (OpenSpec.ofChange spanBackSpec)

/-- ITS FALSE NEIGHBOUR: 'it returns false'. Refute it at one input. -/
def spanBackWrong : ChangeSpec := { name := "spanBack", fn := fun _ => fun
  | [d1, d2, d3] => { results := [.lit (.bool false)], args := [d1, d2, d3] }
  | _ => none }
def SpanBackWrongFalsely : Prop := spanBackRow.holds Try.pinned (OpenSpec.ofChange spanBackWrong)

/- THE SECOND FORM. 'bulk': how many values and letters a reading holds, each counted each time it is reached (what is shared counts as often as it is met; a slice's spare places count too). A statement '..UptoSaid' is the law's where the arguments, and the package variables that the reading takes, are together of bulk at most 1048576: NARROWER than '..Said'. Prove '..Said' where nothing that the law and all that it calls make is longer than what came in: it says more and counts as full. Else prove '..UptoSaid'. A law counts once. -/
mutual
def uptoBulk {H : Type} : DataW H → Nat
  | .lit (.string bytes) => bytes.length + 1
  | .lit _ => 1
  | .nil => 1
  | .ptr d => uptoBulk d + 1
  | .slice elems spare => uptoBulkAll elems + uptoBulkAll spare + 1
  | .agg parts => uptoBulkAll parts + 1
  | .iface _ d => uptoBulk d + 1
  | .map entries => uptoBulkEntries entries + 1
  | .held _ => 1
def uptoBulkAll {H : Type} : List (DataW H) → Nat
  | [] => 0
  | d :: r => uptoBulk d + uptoBulkAll r
def uptoBulkEntries {H : Type} : List (Lit × DataW H) → Nat
  | [] => 0
  | x :: r => uptoBulkEntry x + uptoBulkEntries r
def uptoBulkEntry {H : Type} : Lit × DataW H → Nat
  | (.string bytes, d) => bytes.length + uptoBulk d + 1
  | (_, d) => uptoBulk d + 1
 end
def uptoSmall : (H : Type) → List (DataW H) → Bool := fun _ ds => decide (uptoBulkAll ds ≤ 1048576)
def OpenSpec.upto (s : _root_.Go.ChangeSpec) : _root_.Go.OpenSpec := { _root_.Go.OpenSpec.ofChange s with cond := some uptoSmall }

/-- 'remudalaw15.SpanTrees', WHERE WHAT IT READS IS OF BULK AT MOST 1048576: true; the input reads as it did. -/
def spanTreesUptoRow : OpenClaim := { program := "ytbchgnlfkcgklaa", sum := "a774d72a7c97cd6855062a4bb54c83104b0f6bb7e74b039b7caa4e605053a541", func := "remuda/remudalaw15.SpanTrees", spec := "spanTrees", apart := false, narrowed := true }
def SpanTreesUptoSaid : Prop := spanTreesUptoRow.holds Try.pinned (OpenSpec.upto spanTreesSpec)

/-- 'remudalaw15.SpanPaths', WHERE WHAT IT READS IS OF BULK AT MOST 1048576: true; the input reads as it did. -/
def spanPathsUptoRow : OpenClaim := { program := "ytbchgnlfkcgklaa", sum := "a774d72a7c97cd6855062a4bb54c83104b0f6bb7e74b039b7caa4e605053a541", func := "remuda/remudalaw15.SpanPaths", spec := "spanPaths", apart := false, narrowed := true }
def SpanPathsUptoSaid : Prop := spanPathsUptoRow.holds Try.pinned (OpenSpec.upto spanPathsSpec)

/-- 'remudalaw15.SpanLeads', WHERE WHAT IT READS IS OF BULK AT MOST 1048576: true; the input reads as it did. -/
def spanLeadsUptoRow : OpenClaim := { program := "ytbchgnlfkcgklaa", sum := "a774d72a7c97cd6855062a4bb54c83104b0f6bb7e74b039b7caa4e605053a541", func := "remuda/remudalaw15.SpanLeads", spec := "spanLeads", apart := false, narrowed := true }
def SpanLeadsUptoSaid : Prop := spanLeadsUptoRow.holds Try.pinned (OpenSpec.upto spanLeadsSpec)

/-- 'remudalaw15.SpanBack', WHERE WHAT IT READS IS OF BULK AT MOST 1048576: true; the input reads as it did. -/
def spanBackUptoRow : OpenClaim := { program := "ytbchgnlfkcgklaa", sum := "a774d72a7c97cd6855062a4bb54c83104b0f6bb7e74b039b7caa4e605053a541", func := "remuda/remudalaw15.SpanBack", spec := "spanBack", apart := false, narrowed := true }
def SpanBackUptoSaid : Prop := spanBackUptoRow.holds Try.pinned (OpenSpec.upto spanBackSpec)

end Rows
end Go.Proofs.Ytbchgnlfkcgklaa
