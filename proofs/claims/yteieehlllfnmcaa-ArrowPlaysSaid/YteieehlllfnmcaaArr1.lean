/-
  Layer 16: an arrow in memory: Home, turn, Want, Find, New; slices.Contains at ints. Conditions: none.
-/
import Derived.Test.YteieehlllfnmcaaSpnLaw
import Derived.Test.YteieehlllfnmcaaRowC
import Derived.Test.YteieehlllfnmcaaReg3
import Derived.BigQuiet
namespace Go.Proofs.Yteieehlllfnmcaa.Arr
set_option maxRecDepth 100000
open Go.RowKit Go.Deep Go.Proofs.Yteieehlllfnmcaa.Mem Go.Proofs.Yteieehlllfnmcaa.Spn

/-- An arrow. -/
structure Ar where
  node : Int
  nodes : Int
  tgt : Int
def Ar.vals (a : Ar) : List Value := [.int .i64 a.node, .int .i64 a.nodes, .int .i64 a.tgt]
theorem fit_ar (l : List Ar) : Fit 3 (l.map Ar.vals) := ⟨fun v hv => by obtain ⟨x, _, rfl⟩ := List.mem_map.1 hv; rfl, fun v hv u hu => by
  obtain ⟨x, _, rfl⟩ := List.mem_map.1 hv
  unfold Ar.vals at hu
  simp only [List.mem_cons, List.not_mem_nil, or_false] at hu
  rcases hu with rfl | rfl | rfl <;> rfl⟩
theorem el_ar : Elem 48 51 (.agg #[.int .i64 0, .int .i64 0, .int .i64 0]) 3 24 := ⟨Try.underlying48, by kernel_rfl, rfl, by decide, by decide⟩
def homeB (a : Ar) : Bool := a.tgt == a.node
/-- Where a find goes on to that comes to an arrow: 0: nowhere. -/
def onI (a : Ar) : Int := if homeB a then 0 else a.tgt
def Ar.put (a : Ar) (x : Int) : Ar := ⟨a.node, a.nodes, x⟩
theorem index_any (A : Option Addr) (l : List Int) (c : Nat) (x : Int) (w : World) (h : IRow w A l) (hl : l.length ≤ 1000) :
    Calls Try.prog 30 #[.slice A l.length c, .int .i64 x] w fun e w' => ∃ i : Int, e = .returned (.int .i64 i) ∧ (x ∈ l ↔ 0 ≤ i) ∧ w' = w := by
  have HI := Lib.hid h
  obtain ⟨n, hn⟩ : ∃ n, l.length = n := ⟨_, rfl⟩
  rw [hn] at hl ⊢
  have HN := Lib.hid hn
  clear h hn
  go_enter Try.func30, Try.ntmps30
  go_wp2_with fail
  go_loopw [8] (fun i wr => ∃ k : Nat, i = .int .i64 (k : Int) ∧ k ≤ n ∧ Hid (x ∉ l.take k) ∧ wr = w) (fun i _ => n - (intOf i).toNat)
  case atStart => exact ⟨0, rfl, Nat.zero_le _, Lib.hid (by simp), rfl⟩
  case round =>
    obtain ⟨k, rfl, hk, HX, rfl⟩ := hrel
    by_cases hlt : k < n
    · have hkl : k < l.length := by rw [HN.out]; exact hlt
      obtain ⟨g, off, rfl, hc⟩ := HI.out k hkl
      obtain ⟨y, hy⟩ : ∃ y, l[k] = y := ⟨_, rfl⟩
      rw [hy] at hc
      have HT : Hid (l.take (k + 1) = l.take k ++ [y]) := Lib.hid (by rw [List.take_add_one, List.getElem?_eq_getElem hkl, hy]; rfl)
      have HM : Hid (y ∈ l) := Lib.hid (by rw [← hy]; exact List.getElem_mem hkl)
      clear hy hkl
      by_cases hxy : x = y
      · subst hxy
        go_wp2_with fail
        go_returns
        exact ⟨(k : Int), rfl, ⟨fun _ => by omega, fun _ => HM.out⟩, rfl⟩
      · have e1 : (x == y) = false := by simpa using hxy
        have HX2 : Hid (x ∉ l.take (k + 1)) := Lib.hid (by rw [HT.out, List.mem_append, List.mem_singleton]; exact fun e => e.elim HX.out hxy)
        clear hxy HX
        go_wp2_with fail
        go_roundw
        case rel => exact ⟨k + 1, by go_num, by omega, HX2, by trivial⟩
        case measure => simp [intOf]; omega
    · obtain rfl : k = n := by omega
      have HE : Hid (x ∉ l) := Lib.hid (by have := HX.out; rwa [List.take_of_length_le (Nat.le_of_eq HN.out)] at this)
      go_wp2_with fail
      go_returns
      exact ⟨-1, rfl, ⟨fun e => absurd e HE.out, fun e => absurd e (by decide)⟩, rfl⟩
theorem contains_any (A : Option Addr) (l : List Int) (c : Nat) (x : Int) (w : World) (h : IRow w A l) (hl : l.length ≤ 1000) :
    Calls Try.prog 26 #[.slice A l.length c, .int .i64 x] w fun e w' => e = .returned (.bool (decide (x ∈ l))) ∧ w' = w := by
  have HX := Lib.hid (index_any A l c x w h hl)
  obtain ⟨n, hn⟩ : ∃ n, l.length = n := ⟨_, rfl⟩
  obtain ⟨q, hq⟩ : ∃ q, decide (x ∈ l) = q := ⟨_, rfl⟩
  rw [hn] at HX ⊢
  rw [hq]
  have HQ := Lib.hid hq
  clear hn hl hq h
  go_enter Try.func26, Try.ntmps26
  go_wp2_with fail
  refine HX.out.mono ?_
  rintro e w1 ⟨i, rfl, hi, rfl⟩
  have e1 : decide (i ≥ 0) = q := by rw [← HQ.out]; exact decide_eq_decide.2 hi.symm
  clear hi HX
  go_wp2_with fail
  go_returns
  exact ⟨rfl, rfl⟩
theorem below_drew (w : World) (n : Nat) : Below w.heap.size w (w.drewN n) := below_drewN (Below.refl _ _) n
section
variable {w : World} {g o : Nat} {a : Ar}
theorem Home_any (hc : CellsO w g o a.vals) : Calls Try.prog 20 #[.pointer (some ⟨g, o, none⟩)] w fun e w' => e = .returned (.bool (homeB a)) ∧ ∃ m, w' = w.drewN m := by
  have c0 : w.cell? ⟨g, o, none⟩ = _ := hc.cell (j := 0) rfl
  have c2 : w.cell? ⟨g, o + 2, none⟩ = _ := hc.cell (j := 2) rfl
  obtain ⟨b, hb⟩ : ∃ b, (a.tgt == a.node) = b := ⟨_, rfl⟩
  unfold homeB
  rw [hb]
  clear hc
  go_enter Try.func20, Try.ntmps20
  go_wp2_with fail
  go_quiet (fail)
  go_wp2_with fail
  go_returns
  exact ⟨rfl, _, rfl⟩
theorem turn_any (hc : CellsO w g o a.vals) (x : Int) : Calls Try.prog 25 #[.pointer (some ⟨g, o, none⟩), .int .i64 x] w fun e w' => e = .returned (.tuple #[.int .i64 (onI a), .bool (!homeB a)]) ∧ ∃ m, w' = (w.drewN m).setCell ⟨g, o + 2, none⟩ (.int .i64 x) := by
  have HC := Lib.hid hc
  have c2 : w.cell? ⟨g, o + 2, none⟩ = _ := hc.cell (j := 2) rfl
  have f2 : w.frozen? ⟨g, o + 2, none⟩ = false := hc.frozen (j := 2) (by simp [Ar.vals])
  unfold onI
  obtain ⟨b, hb⟩ : ∃ b, homeB a = b := ⟨_, rfl⟩
  have HH : Hid (∀ n, Calls Try.prog 20 #[.pointer (some ⟨g, o, none⟩)] (w.drewN n) fun e w' => e = .returned (.bool b) ∧ ∃ m, w' = (w.drewN n).drewN m) := Lib.hid fun n => by rw [← hb]; exact Home_any (hc.later (below_drew w n))
  rw [hb]
  clear hc hb
  cases b
  all_goals
  · go_enter Try.func25, Try.ntmps25
    go_wp2_with fail
    go_quiet ((first | (go_at_call 20; exact Calls.quiet_of (HH.out _))))
    go_wp2_with fail
    go_returns
    exact ⟨rfl, _, rfl⟩
theorem Want_any (hc : CellsO w g o a.vals) : Calls Try.prog 17 #[.pointer (some ⟨g, o, none⟩)] w fun e w' => e = .returned (.tuple #[.int .i64 (onI a), .bool (!homeB a)]) ∧ ∃ m, w' = (w.drewN m).setCell ⟨g, o + 2, none⟩ (.int .i64 a.node) := by
  have c0 : w.cell? ⟨g, o, none⟩ = _ := hc.cell (j := 0) rfl
  have HT := Lib.hid (turn_any hc a.node)
  clear hc
  go_enter Try.func17, Try.ntmps17
  go_wp2_with fail
  refine HT.out.mono ?_
  rintro e w1 ⟨rfl, m, rfl⟩
  go_wp2_with fail
  go_returns
  exact ⟨rfl, _, rfl⟩
end
end Go.Proofs.Yteieehlllfnmcaa.Arr
