/-
  Layer 15: Toward, Far; the document's Edge, Same. Conditions: none.
-/
import Derived.Test.YteieehlllfnmcaaSpn3
namespace Go.Proofs.Yteieehlllfnmcaa.Spn
set_option maxRecDepth 100000
open Go.RowKit Go.Deep Go.Proofs.Yteieehlllfnmcaa.Mem

def towI (f : Int) : List Nat → Int
  | [] => 0
  | [_] => f
  | _ :: y :: _ => (y : Int)
theorem Toward_any (f t m : Int) (w : World) : Calls Try.prog 28 #[.int .i64 f, .int .i64 t, .int .i64 m] w fun e w' => e = .returned (.int .i64 (towI f (pathI f t m))) ∧ Below w.heap.size w w' := by
  have HP := Lib.hid (Path_any f t m w)
  obtain ⟨l, hl⟩ : ∃ l, pathI f t m = l := ⟨_, rfl⟩
  rw [hl] at HP ⊢
  clear hl
  match l, HP with
  | [], HP =>
    go_enter Try.func28, Try.ntmps28
    go_wp2_with fail
    refine HP.out.mono ?_
    rintro e w1 ⟨v, rfl, hrow, hb⟩
    obtain ⟨A, c, rfl, _⟩ := hrow.islice
    have HB := Lib.hid hb
    clear hrow hb HP
    go_wp2_with fail
    go_returns
    exact ⟨rfl, HB.out⟩
  | [x], HP =>
    go_enter Try.func28, Try.ntmps28
    go_wp2_with fail
    refine HP.out.mono ?_
    rintro e w1 ⟨v, rfl, hrow, hb⟩
    obtain ⟨A, c, rfl, _⟩ := hrow.islice
    have HB := Lib.hid hb
    clear hrow hb HP
    go_wp2_with fail
    go_returns
    exact ⟨rfl, HB.out⟩
  | x :: y :: r, HP =>
    go_enter Try.func28, Try.ntmps28
    go_wp2_with fail
    refine HP.out.mono ?_
    rintro e w1 ⟨v, rfl, hrow, hb⟩
    obtain ⟨A, c, rfl, hi, _⟩ := hrow.islice
    obtain ⟨g, off, rfl, hc⟩ := hi 1 (by simp)
    have HB := Lib.hid hb
    obtain ⟨n, hn⟩ : ∃ n, (x :: y :: r).length = n := ⟨_, rfl⟩
    have hn2 : 2 ≤ n := by rw [← hn]; simp
    rw [hn]
    have hc2 : w1.cell? ⟨g, off + 1, none⟩ = some (.int .i64 (y : Int)) := hc
    have e1 : ((n : Int) == 0) = false := by simp; omega
    have e2 : ((n : Int) == 1) = false := by simp; omega
    clear hrow hb HP hi hc hn
    go_wp2_with fail
    go_returns
    exact ⟨rfl, HB.out⟩
theorem mx_snoc (l : List Nat) (x : Nat) : mx (l ++ [x]) = max (mx l) x := by unfold mx; rw [List.foldl_append]; rfl
def farI (m : Int) : Nat := if hasB m m then farL m.toNat else 0
end Go.Proofs.Yteieehlllfnmcaa.Spn
