/-
  Layer 7: the document's fields of a kind; whether a list has a number; which kinds have a name. Conditions: none.
-/
import Derived.Test.YtdmekfeggdodnaaRecMem
namespace Go.Proofs.Ytdmekfeggdodnaa.Rec
set_option maxRecDepth 100000
open Go.RowKit Go.Proofs.Ytdmekfeggdodnaa.Mem Go.Proofs.Ytdmekfeggdodnaa.Item

theorem nums_cells {w : World} {g : Nat} {t : TypeId} {l : List Int} (h : Cells w g t (l.map (Value.int .i64))) : Nums w (some ⟨g, 0, none⟩) l :=
  fun k hk => ⟨g, 0, rfl, by rw [Nat.zero_add]; exact h.cell (by simp [hk])⟩
/-- The document's fields of a kind that are numbers. -/
def rl (k : Int) : List Int := if k = 1 then [1, 2, 3] else if k = 2 then [3] else if k = 3 then [4, 5, 6, 1, 7, 8] else if k = 8 then [4, 6, 1] else if k = 9 then [4, 6, 7, 8] else if k = 10 then [4, 6] else []
theorem rl_len (k : Int) : (rl k).length ≤ 6 := by
  unfold rl
  split
  · decide
  split
  · decide
  split
  · decide
  split
  · decide
  split
  · decide
  split
  · decide
  · decide
set_option maxHeartbeats 4000000 in
theorem refFields_any (k : Int) (w : World) (hk : 1 ≤ k ∧ k ≤ 12) :
    Calls Try.prog 51 #[.int .i64 k] w fun e w' => ∃ A c, e = .returned (.slice A (rl k).length c) ∧ Nums w' A (rl k) ∧ (∀ b off, A = some ⟨b, off, none⟩ → w.heap.size ≤ b) ∧ Below w.heap.size w w' := by
  rcases (show k = 1 ∨ k = 2 ∨ k = 3 ∨ k = 4 ∨ k = 5 ∨ k = 6 ∨ k = 7 ∨ k = 8 ∨ k = 9 ∨ k = 10 ∨ k = 11 ∨ k = 12 by omega) with rfl | rfl | rfl | rfl | rfl | rfl | rfl | rfl | rfl | rfl | rfl | rfl
  · go_enter Try.func51, Try.ntmps51
    go_wp2
    go_returns
    have hc := cells_new (w.alloc (.cells #[] 3)) 3 ((rl 1).map (Value.int .i64)) #[.int .i64 1, .int .i64 2, .int .i64 3] rfl
    simp only [World.size_alloc] at hc
    exact ⟨_, _, rfl, nums_cells ((((((((((((hc.later (below_alloc _ _)).later (below_alloc _ _)).later (below_alloc _ _)).later (below_alloc _ _)).later (below_alloc _ _)).later (below_alloc _ _)).later (below_alloc _ _)).later (below_alloc _ _)).later (below_alloc _ _)).later (below_alloc _ _)).later (below_alloc _ _)).later (below_alloc _ _)), (by intro b off e; cases e; omega), by go_grown⟩
  · go_enter Try.func51, Try.ntmps51
    go_wp2
    go_returns
    have hc := cells_new ((w.alloc (.cells #[] 3)).alloc (.cells #[.int .i64 1, .int .i64 2, .int .i64 3] 3)) 3 ((rl 2).map (Value.int .i64)) #[.int .i64 3] rfl
    simp only [World.size_alloc] at hc
    exact ⟨_, _, rfl, nums_cells (((((((((((hc.later (below_alloc _ _)).later (below_alloc _ _)).later (below_alloc _ _)).later (below_alloc _ _)).later (below_alloc _ _)).later (below_alloc _ _)).later (below_alloc _ _)).later (below_alloc _ _)).later (below_alloc _ _)).later (below_alloc _ _)).later (below_alloc _ _)), (by intro b off e; cases e; omega), by go_grown⟩
  · go_enter Try.func51, Try.ntmps51
    go_wp2
    go_returns
    have hc := cells_new (((w.alloc (.cells #[] 3)).alloc (.cells #[.int .i64 1, .int .i64 2, .int .i64 3] 3)).alloc (.cells #[.int .i64 3] 3)) 3 ((rl 3).map (Value.int .i64)) #[.int .i64 4, .int .i64 5, .int .i64 6, .int .i64 1, .int .i64 7, .int .i64 8] rfl
    simp only [World.size_alloc] at hc
    exact ⟨_, _, rfl, nums_cells ((((((((((hc.later (below_alloc _ _)).later (below_alloc _ _)).later (below_alloc _ _)).later (below_alloc _ _)).later (below_alloc _ _)).later (below_alloc _ _)).later (below_alloc _ _)).later (below_alloc _ _)).later (below_alloc _ _)).later (below_alloc _ _)), (by intro b off e; cases e; omega), by go_grown⟩
  · go_enter Try.func51, Try.ntmps51
    go_wp2
    go_returns
    exact ⟨_, _, rfl, nums_nil _ _, (by intro b off e; cases e; omega), by go_grown⟩
  · go_enter Try.func51, Try.ntmps51
    go_wp2
    go_returns
    exact ⟨_, _, rfl, nums_nil _ _, (by intro b off e; cases e; omega), by go_grown⟩
  · go_enter Try.func51, Try.ntmps51
    go_wp2
    go_returns
    exact ⟨_, _, rfl, nums_nil _ _, (by intro b off e; cases e; omega), by go_grown⟩
  · go_enter Try.func51, Try.ntmps51
    go_wp2
    go_returns
    exact ⟨_, _, rfl, nums_nil _ _, (by intro b off e; cases e; omega), by go_grown⟩
  · go_enter Try.func51, Try.ntmps51
    go_wp2
    go_returns
    have hc := cells_new ((((((((w.alloc (.cells #[] 3)).alloc (.cells #[.int .i64 1, .int .i64 2, .int .i64 3] 3)).alloc (.cells #[.int .i64 3] 3)).alloc (.cells #[.int .i64 4, .int .i64 5, .int .i64 6, .int .i64 1, .int .i64 7, .int .i64 8] 3)).alloc (.cells #[] 3)).alloc (.cells #[] 3)).alloc (.cells #[] 3)).alloc (.cells #[] 3)) 3 ((rl 8).map (Value.int .i64)) #[.int .i64 4, .int .i64 6, .int .i64 1] rfl
    simp only [World.size_alloc] at hc
    exact ⟨_, _, rfl, nums_cells (((((hc.later (below_alloc _ _)).later (below_alloc _ _)).later (below_alloc _ _)).later (below_alloc _ _)).later (below_alloc _ _)), (by intro b off e; cases e; omega), by go_grown⟩
  · go_enter Try.func51, Try.ntmps51
    go_wp2
    go_returns
    have hc := cells_new (((((((((w.alloc (.cells #[] 3)).alloc (.cells #[.int .i64 1, .int .i64 2, .int .i64 3] 3)).alloc (.cells #[.int .i64 3] 3)).alloc (.cells #[.int .i64 4, .int .i64 5, .int .i64 6, .int .i64 1, .int .i64 7, .int .i64 8] 3)).alloc (.cells #[] 3)).alloc (.cells #[] 3)).alloc (.cells #[] 3)).alloc (.cells #[] 3)).alloc (.cells #[.int .i64 4, .int .i64 6, .int .i64 1] 3)) 3 ((rl 9).map (Value.int .i64)) #[.int .i64 4, .int .i64 6, .int .i64 7, .int .i64 8] rfl
    simp only [World.size_alloc] at hc
    exact ⟨_, _, rfl, nums_cells ((((hc.later (below_alloc _ _)).later (below_alloc _ _)).later (below_alloc _ _)).later (below_alloc _ _)), (by intro b off e; cases e; omega), by go_grown⟩
  · go_enter Try.func51, Try.ntmps51
    go_wp2
    go_returns
    have hc := cells_new ((((((((((w.alloc (.cells #[] 3)).alloc (.cells #[.int .i64 1, .int .i64 2, .int .i64 3] 3)).alloc (.cells #[.int .i64 3] 3)).alloc (.cells #[.int .i64 4, .int .i64 5, .int .i64 6, .int .i64 1, .int .i64 7, .int .i64 8] 3)).alloc (.cells #[] 3)).alloc (.cells #[] 3)).alloc (.cells #[] 3)).alloc (.cells #[] 3)).alloc (.cells #[.int .i64 4, .int .i64 6, .int .i64 1] 3)).alloc (.cells #[.int .i64 4, .int .i64 6, .int .i64 7, .int .i64 8] 3)) 3 ((rl 10).map (Value.int .i64)) #[.int .i64 4, .int .i64 6] rfl
    simp only [World.size_alloc] at hc
    exact ⟨_, _, rfl, nums_cells (((hc.later (below_alloc _ _)).later (below_alloc _ _)).later (below_alloc _ _)), (by intro b off e; cases e; omega), by go_grown⟩
  · go_enter Try.func51, Try.ntmps51
    go_wp2
    go_returns
    exact ⟨_, _, rfl, nums_nil _ _, (by intro b off e; cases e; omega), by go_grown⟩
  · go_enter Try.func51, Try.ntmps51
    go_wp2
    go_returns
    exact ⟨_, _, rfl, nums_nil _ _, (by intro b off e; cases e; omega), by go_grown⟩

theorem refHas_any (A : Option Addr) (l : List Int) (c : Nat) (n : Int) (w : World) (hl : Nums w A l) (hm : l.length ≤ 1000) :
    Calls Try.prog 85 #[.slice A l.length c, .int .i64 n] w fun e w' => e = .returned (.bool (decide (n ∈ l))) ∧ w = w' := by
  have HL := Lib.hid hl
  clear hl
  go_enter Try.func85, Try.ntmps85
  go_wp2_with fail
  go_loopw [5] (fun i wr => ∃ k : Nat, k ≤ l.length ∧ i = .int .i64 (k : Int) ∧ Hid (n ∉ l.take k) ∧ w = wr) (fun i _ => l.length - (intOf i).toNat)
  case atStart => exact ⟨0, by omega, rfl, Lib.hid (by simp), rfl⟩
  case round =>
    obtain ⟨k, hk, rfl, hz, rfl⟩ := hrel
    by_cases hlt : k < l.length
    · obtain ⟨b, off, rfl, hc⟩ := HL.out k hlt
      have HT := Lib.hid (show l.take (k + 1) = l.take k ++ [l[k]] from List.take_succ_eq_append_getElem hlt)
      have HME := Lib.hid (List.getElem_mem hlt)
      generalize l[k] = x at *
      by_cases hx : x = n
      · subst hx
        have HD := Lib.hid (decide_eq_true HME.out)
        go_wp2_with fail
        go_returns
        exact ⟨ret_bool HD.out, rfl⟩
      · have HZ : Hid (n ∉ l.take (k + 1)) := Lib.hid (by
          rw [HT.out]
          intro h
          rcases List.mem_append.1 h with h | h
          · exact hz.out h
          · simp at h; exact hx h.symm)
        go_wp2_with fail
        go_roundw
        case rel => exact ⟨k + 1, by omega, by go_num, HZ, by trivial⟩
        case measure => simp [intOf]; omega
    · have HD : Hid (decide (n ∈ l) = false) := Lib.hid (decide_eq_false (by
        have := hz.out
        rwa [List.take_of_length_le (by omega)] at this))
      clear hz
      go_wp2_with fail
      go_returns
      exact ⟨ret_bool HD.out, rfl⟩
def named (k : Int) : Bool := decide ((4 ≤ k ∧ k ≤ 7) ∨ k = 11)
theorem refNamed_any (k : Int) (w : World) : Calls Try.prog 53 #[.int .i64 k] w fun e w' => e = .returned (.bool (named k)) ∧ w = w' := by
  obtain ⟨v, hv⟩ : ∃ v, named k = v := ⟨_, rfl⟩
  rw [hv]
  unfold named at hv
  by_cases h1 : 4 ≤ k
  · by_cases h2 : k ≤ 7
    · have HV : Hid (v = true) := Lib.hid (by rw [← hv]; exact decide_eq_true (by omega))
      clear hv
      go_enter Try.func53, Try.ntmps53
      go_wp2
      go_returns
      exact ⟨ret_bool HV.out, rfl⟩
    · by_cases h3 : k = 11
      · have HV : Hid (v = true) := Lib.hid (by rw [← hv]; exact decide_eq_true (by omega))
        clear hv
        subst h3
        go_enter Try.func53, Try.ntmps53
        go_wp2
        go_returns
        exact ⟨ret_bool HV.out, rfl⟩
      · have HV : Hid (v = false) := Lib.hid (by rw [← hv]; exact decide_eq_false (by omega))
        have h3' : (k == 11) = false := by simp [h3]
        clear hv
        go_enter Try.func53, Try.ntmps53
        go_wp2
        go_returns
        exact ⟨ret_bool HV.out, rfl⟩
  · have HV : Hid (v = false) := Lib.hid (by rw [← hv]; exact decide_eq_false (by omega))
    have h3 : (k == 11) = false := by
      have : ¬ k = 11 := by omega
      simp [this]
    clear hv
    go_enter Try.func53, Try.ntmps53
    go_wp2
    go_returns
    exact ⟨ret_bool HV.out, rfl⟩
end Go.Proofs.Ytdmekfeggdodnaa.Rec
