/-
  Scripts of operations that came in: each a number, another one, and texts; how many bytes all have. No program is named. Conditions: none.
-/
import Derived.Test.YtfdhckfpkhoheaaDoorCat
namespace Go.Proofs.YtfdhckfpkhoheaaDoor.Mem
open Go.RowKit

/-- An operation of a script. -/
structure Opn where
  k : Int
  n : Int
  A : Option Addr
  c : Nat
  ss : List ByteArray
def Opn.val (o : Opn) : Value := .agg #[.int .i64 o.k, .int .i64 o.n, .slice o.A o.ss.length o.c]
structure Opn.Ok (w : World) (o : Opn) : Prop where
  low : -9223372036854775808 ≤ o.n
  high : o.n ≤ 9223372036854775807
  texts : Strs w o.A o.ss
  none : Cap o.A o.ss.length o.c
  len : o.ss.length ≤ maxLen
/-- The slice whose first cell is at A holds these operations. -/
def Ops (w : World) (A : Option Addr) (os : List Opn) : Prop := ∀ k (h : k < os.length), os[k].Ok w ∧ ∃ b off, A = some ⟨b, off, none⟩ ∧
  w.cell? ⟨b, off + k * 3, none⟩ = some (.int .i64 os[k].k) ∧ w.cell? ⟨b, off + k * 3 + 1, none⟩ = some (.int .i64 os[k].n) ∧ w.cell? ⟨b, off + k * 3 + 2, none⟩ = some (.slice os[k].A os[k].ss.length os[k].c)
theorem Opn.Ok.later {w w' : World} {o : Opn} (h : o.Ok w) (hb : Below w.heap.size w w') : o.Ok w' := ⟨h.low, h.high, h.texts.later hb, h.none, h.len⟩
theorem Ops.later {w w' : World} {A : Option Addr} {os : List Opn} (h : Ops w A os) (hb : Below w.heap.size w w') : Ops w' A os := by
  intro k hk
  obtain ⟨ho, b, off, e, h0, h1, h2⟩ := h k hk
  exact ⟨ho.later hb, b, off, e, (hb.cell (block_of_cell h0)).trans h0, (hb.cell (block_of_cell h1)).trans h1, (hb.cell (block_of_cell h2)).trans h2⟩

/-- How many bytes all have. -/
def total (os : List Opn) : Nat := (os.map fun o => (cat o.ss).length).sum
theorem sum_take (l : List Nat) (k : Nat) (h : k < l.length) : (l.take (k + 1)).sum = (l.take k).sum + l[k] := by
  rw [List.take_succ_eq_append_getElem h, List.sum_append]; simp
theorem total_take (os : List Opn) (k : Nat) (h : k < os.length) : total (os.take (k + 1)) = total (os.take k) + (cat os[k].ss).length := by
  unfold total
  rw [List.map_take, List.map_take, sum_take _ k (by simpa using h), List.getElem_map]
theorem total_le (os : List Opn) (k : Nat) : total (os.take k) ≤ total os := by
  have h : total os = total (os.take k) + total (os.drop k) := by
    unfold total
    rw [← List.sum_append, ← List.map_append, List.take_append_drop]
  omega
/-- Is a script one that is played? -/
def small (most bytes : Nat) (os : List Opn) : Bool := decide (os.length ≤ most) && os.all (fun o => decide (o.ss.length ≤ 20)) && decide (total os ≤ bytes)
theorem small_spec {most bytes : Nat} {os : List Opn} (h : small most bytes os = true) : os.length ≤ most ∧ (∀ o ∈ os, o.ss.length ≤ 20) ∧ total os ≤ bytes := by
  unfold small at h
  simp only [Bool.and_eq_true, decide_eq_true_eq, List.all_eq_true] at h
  exact ⟨h.1.1, h.1.2, h.2⟩
end Go.Proofs.YtfdhckfpkhoheaaDoor.Mem
