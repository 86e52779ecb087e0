/-
  Layer 11: New, Len, has, whole. Conditions: none.
-/
import Derived.Test.YtfhcfiebhagbeaaNetWay
namespace Go.Proofs.Ytfhcfiebhagbeaa.Net
set_option maxRecDepth 100000
open Go.RowKit Go.Deep Go.Proofs.Ytfhcfiebhagbeaa.Mem

theorem Len_any {base b m c : Nat} {w : World} {N : Nt} {A : Option Addr} (h : NetAt base w b m N A c) :
    Calls Try.prog 24 #[.pointer (some ⟨b, 0, none⟩)] w fun e w' => e = .returned (.int .i64 N.fl.length) ∧ w' = w := by
  have c2 := h.cel.cell (j := 2) rfl
  clear h
  go_enter Try.func24, Try.ntmps24
  go_wp2_with fail
  go_returns
  exact ⟨rfl, rfl⟩
theorem Len_nil (w : World) : Calls Try.prog 24 #[.pointer none] w fun e w' => e = .returned (.int .i64 0) ∧ w' = w := by
  go_enter Try.func24, Try.ntmps24
  go_wp2_with fail
  go_returns
  exact ⟨rfl, rfl⟩
/-- Does a packet stand at i? -/
def hasN (N : Nt) (i : Int) : Bool := decide (0 ≤ i) && decide (i < (N.fl.length : Int))
theorem has_any {base b m c : Nat} {w : World} {N : Nt} {A : Option Addr} (h : NetAt base w b m N A c) (i : Int) :
    Calls Try.prog 31 #[.pointer (some ⟨b, 0, none⟩), .int .i64 i] w fun e w' => e = .returned (.bool (hasN N i)) ∧ w' = w := by
  have HC := Lib.hid (Len_any h)
  clear h
  unfold hasN
  by_cases h0 : 0 ≤ i
  · have e0 : decide (i ≥ 0) = true := by simpa using h0
    go_enter Try.func31, Try.ntmps31
    go_wp2_with fail
    refine HC.out.mono ?_
    rintro e w2 ⟨rfl, rfl⟩
    go_wp2_with fail
    go_returns
    exact ⟨ret_bool (by simp [h0]), rfl⟩
  · have e0 : decide (i ≥ 0) = false := by simpa using h0
    go_enter Try.func31, Try.ntmps31
    go_wp2_with fail
    go_returns
    exact ⟨ret_bool (by simp), rfl⟩
theorem has_nil (w : World) (i : Int) : Calls Try.prog 31 #[.pointer none, .int .i64 i] w fun e w' => e = .returned (.bool false) ∧ w' = w := by
  have HC := Lib.hid (Len_nil w)
  by_cases h0 : 0 ≤ i
  · have e0 : decide (i ≥ 0) = true := by simpa using h0
    have e1 : decide (i < 0) = false := by simp; omega
    go_enter Try.func31, Try.ntmps31
    go_wp2_with fail
    refine HC.out.mono ?_
    rintro e w2 ⟨rfl, rfl⟩
    go_wp2_with fail
    go_returns
    exact ⟨rfl, rfl⟩
  · have e0 : decide (i ≥ 0) = false := by simpa using h0
    go_enter Try.func31, Try.ntmps31
    go_wp2_with fail
    go_returns
    exact ⟨rfl, rfl⟩
set_option maxHeartbeats 1000000 in
theorem whole_any {base b m c : Nat} {w : World} {N : Nt} {A : Option Addr} (h : NetAt base w b m N A c) (x y : Int) :
    Calls Try.prog 27 #[.pointer (some ⟨b, 0, none⟩), .int .i64 x, .int .i64 y] w fun e w' => e = .returned (.bool (wholeN N x y)) ∧ Below w.heap.size w w' := by
  have HC := Lib.hid (between_any N.nodes x y b 0 w (h.cel.cell (j := 0) rfl))
  have HN := Lib.hid h
  obtain ⟨p, q, hv, hp, hq, hpq⟩ := betwV_eq N.nodes x y h.nodes.2
  rw [hv] at HC
  have HPQ := Lib.hid hpq
  have HP := Lib.hid (And.intro hp hq)
  unfold wholeN
  obtain ⟨B, hB⟩ : ∃ B, betw N.nodes x y = B := ⟨_, rfl⟩
  rw [hB] at HC HPQ ⊢
  obtain ⟨ans, hans⟩ : ∃ ans, (B && !N.cut (min x y) (max x y)) = ans := ⟨_, rfl⟩
  have HANS := Lib.hid hans
  rw [hans]
  clear h hv hp hq hpq hB hans
  unfold wayV at HC
  go_enter Try.func27, Try.ntmps27
  go_wp2_with fail
  refine HC.out.mono ?_
  rintro e w2 ⟨rfl, hb2⟩
  have HB2 := Lib.hid hb2
  obtain ⟨w3, hw3⟩ : ∃ W, W = w2.alloc (.cells #[.int .i64 p, .int .i64 q] 72) := ⟨_, rfl⟩
  have hb3 : Below w2.heap.size w2 w3 := by rw [hw3]; exact below_alloc _ _
  have hc : Cells w3 w2.heap.size 72 [.int .i64 p, .int .i64 q] := by rw [hw3]; exact cells_new _ _ _ _ rfl
  have HN3 := Lib.hid ((HN.out.later hb2).later hb3)
  have k0 := hc.cell (j := 0) rfl
  have k1 := hc.cell (j := 1) rfl
  have HB3 := Lib.hid (hb2.trans (hb3.mono hb2.size))
  clear hb2 hb3 hc HC
  go_wp2_with fail
  rw [← hw3]
  have g1 : Below w3.heap.size w3 w3.drew := (Below.refl _ _).drew
  have g2 : Below w3.heap.size w3 (w3.alloc (.cells #[] 75)).drew := (below_alloc w3 (.cells #[] 75)).drew
  have c1 := HN3.out.cel.cell (j := 1) rfl
  have c1' := (g2.cell (block_of_cell c1)).trans c1
  have k0' := (g2.cell (block_of_cell k0)).trans k0
  have k1' := (g2.cell (block_of_cell k1)).trans k1
  obtain ⟨n, hmap⟩ := HN3.out.map
  have q1 := look_way (hmap.later g1) HP.out.1 HP.out.2
  have q2 := look_way (hmap.later g2) HP.out.1 HP.out.2
  unfold wayV at q1 q2
  obtain ⟨CC, hCC⟩ : ∃ CC, N.cut p q = CC := ⟨_, rfl⟩
  rw [hCC] at q1 q2
  have HCC := Lib.hid hCC
  have HG1 := Lib.hid g1
  have HG2 := Lib.hid g2
  clear hw3 hmap hCC g1 g2
  go_region
  all_goals
    have HE : Hid ((B && !CC) = ans) := Lib.hid (by
      rw [← HANS.out]
      cases B
      · rfl
      · obtain ⟨e1, e2⟩ := HPQ.out rfl
        rw [← HCC.out, e1, e2])
    clear HANS HPQ HCC
    cases B <;> cases CC
  all_goals
    go_wp2_with fail
    go_returns
    exact ⟨ret_bool HE.out.symm, HB3.out.trans (HG2.out.mono HB3.out.size)⟩
/-- A net just made. -/
theorem New_any (n : Int) (w : World) (h1 : 1 ≤ n) (h2 : n ≤ 16) :
    Calls Try.prog 8 #[.int .i64 n] w fun e w' => ∃ b m, e = .returned (.tuple #[.pointer (some ⟨b, 0, none⟩), .int .i64 0]) ∧ NetAt w.heap.size w' b m ⟨n, fun _ _ => false, []⟩ none 0 ∧ Below w.heap.size w w' := by
  have e1 : decide (n < 1) = false := by simp; omega
  have e2 : decide (n > 16) = false := by simp; omega
  have hmm := @run_makeMap Try.prog
  go_enter Try.func8, Try.ntmps8
  go_wp2_with fail
  go_returns
  have hb1 := below_alloc w (.map #[] 0)
  have hb2 := hb1.alloc hb1.size (.cells #[.int .i64 n, .map (some w.heap.size), .slice none 0 0] 66)
  have hs : (w.alloc (.map #[] 0)).heap.size = w.heap.size + 1 := World.size_alloc _ _
  have hc := cells_new (w.alloc (.map #[] 0)) 66 [.int .i64 n, .map (some w.heap.size), .slice none 0 0] _ rfl
  rw [hs] at hc
  refine ⟨w.heap.size + 1, w.heap.size, rfl, ⟨hc, World.ownsRow_nil _ _ _ _, ⟨0, ((km_made _ _ w 0).later (below_alloc _ _)).congr (fun k v => ⟨fun h => h.elim, fun ⟨_, _, _, _, h⟩ => by cases h⟩) (Nat.le_refl _)⟩, ⟨Nat.le_succ _, Nat.le_refl _⟩, by omega, fun e => (by cases e), fun e => (by cases e), ⟨h1, h2⟩, Nat.zero_le _, fun p hp => (by cases hp)⟩, hb2⟩
theorem New_err (n : Int) (w : World) (h : n < 1 ∨ 16 < n) :
    Calls Try.prog 8 #[.int .i64 n] w fun e w' => e = .returned (.tuple #[.pointer none, .int .i64 1]) ∧ w' = w := by
  by_cases h1 : n < 1
  · have e1 : decide (n < 1) = true := by simpa using h1
    go_enter Try.func8, Try.ntmps8
    go_wp2_with fail
    go_returns
    exact ⟨rfl, rfl⟩
  · have e1 : decide (n < 1) = false := by simpa using h1
    have e2 : decide (n > 16) = true := by simp; omega
    go_enter Try.func8, Try.ntmps8
    go_wp2_with fail
    go_returns
    exact ⟨rfl, rfl⟩
end Go.Proofs.Ytfhcfiebhagbeaa.Net
