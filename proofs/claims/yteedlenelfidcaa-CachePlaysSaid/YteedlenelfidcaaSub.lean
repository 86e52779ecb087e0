/-
  A piece of a function's code. Conditions: none.
-/
import Derived.Test.YteedlenelfidcaaMem
namespace Go.Proofs.Yteedlenelfidcaa.Mem
open Go.RowKit

/-- A piece of a function's code. -/
def sub : List Nat → Code → Code
  | 0 :: p, .seq a _ => sub p a
  | 1 :: p, .seq _ b => sub p b
  | 0 :: p, .cond _ a _ => sub p a
  | 1 :: p, .cond _ _ b => sub p b
  | 0 :: p, .block _ a => sub p a
  | 0 :: p, .loop a => sub p a
  | _, c => c
end Go.Proofs.Yteedlenelfidcaa.Mem
