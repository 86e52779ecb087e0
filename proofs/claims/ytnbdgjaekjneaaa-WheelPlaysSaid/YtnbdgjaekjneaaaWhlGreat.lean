/-
  Layer 12's laws: how great a script is. Conditions: none.
-/
import Derived.Test.YtnbdgjaekjneaaaWhlDuo
namespace Go.Proofs.Ytnbdgjaekjneaaa.Whl
set_option maxRecDepth 100000
open Go.RowKit Go.Deep Go.Proofs.Ytnbdgjaekjneaaa.Mem

theorem great_any (A : Option Addr) (os : List Opk) (cap : Nat) (w : World) (h : Opks w A os) (hl : os.length ≤ 140737488351232) :
    Calls Try.prog 8 #[.slice A os.length cap] w fun e w' => e = .returned (.bool (greatN os)) ∧ Below w.heap.size w w' := by
  obtain ⟨n, hn⟩ : ∃ n, os.length = n := ⟨_, rfl⟩
  have HH := Lib.hid h
  have HL := Lib.hid hn
  have hnl : n ≤ 140737488351232 := by rw [← hn]; exact hl
  by_cases h1 : 400 < n
  · have e1 : decide ((n : Int) > 400) = true := by simp; omega
    have HG : Hid (greatN os = true) := Lib.hid (by unfold greatN; rw [hn]; simp [h1])
    rw [hn, HG.out]
    clear h hl hn
    go_enter Try.func8, Try.ntmps8
    go_wp2_with fail
    go_returns
    exact ⟨rfl, Below.refl _ _⟩
  · have e1 : decide ((n : Int) > 400) = false := by simp; omega
    have HG : Hid (greatN os = decide (400 < total os)) := Lib.hid (by unfold greatN; rw [hn]; simp [h1])
    rw [hn, HG.out]
    obtain ⟨ans, hans⟩ : ∃ B, decide (400 < total os) = B := ⟨_, rfl⟩
    have HANS := Lib.hid hans
    rw [hans]
    clear h hl hn HG hans
    go_enter Try.func8, Try.ntmps8
    go_wp2_with fail
    go_loopw [3, 5, 11] (fun x _ i wr => ∃ k : Nat, k ≤ n ∧ i = .int .i64 (k : Int) ∧ x = .int .i64 (total (os.take k) : Int) ∧ Hid (total (os.take k) ≤ 400) ∧ Hid (Below w.heap.size w wr)) (fun _ _ i _ => n - (intOf i).toNat)
    case atStart => exact ⟨0, Nat.zero_le _, rfl, rfl, Lib.hid (Nat.zero_le _), Lib.hid (Below.refl _ _)⟩
    case round =>
      obtain ⟨k, hk, rfl, rfl, HT, HB⟩ := hrel
      by_cases hkn : k < n
      · have hkl : k < os.length := by rw [HL.out]; exact hkn
        obtain ⟨g, off, rfl, hr, ho⟩ := (HH.out.later HB.out).at hkl
        have HTK := Lib.hid (total_take os k hkl)
        obtain ⟨⟨oe, on, ok, oA, oc, ol⟩, hoe⟩ : ∃ o, os[k] = o := ⟨_, rfl⟩
        rw [hoe] at hr ho HTK
        have x0 := hr 0 _ rfl
        rw [Nat.add_zero] at x0
        have x1 := hr 1 _ rfl
        have x2 := hr 2 _ rfl
        have x3 := hr 3 _ rfl
        have x4 := hr 4 _ rfl
        have x5 := hr 5 _ rfl
        have x6 := hr 6 _ rfl
        have x7 := hr 7 _ rfl
        have x8 := hr 8 _ rfl
        dsimp only at x0 x1 x2 x3 x4 x5 x6 x7 x8 HTK
        have hol := ho.len
        dsimp only at hol
        obtain ⟨q, hq⟩ : ∃ q, ol.length = q := ⟨_, rfl⟩
        rw [hq] at x8 HTK hol
        have ht := HT.out
        have htl := Lib.hid (total_le os (k + 1))
        obtain ⟨we, hwe⟩ : ∃ W, W = wr.alloc (.cells #[.int .i64 oe, .int .i64 on, .int .i64 ok.kind, .int .i64 ok.cell, .int .i64 ok.node, .int .i64 ok.tn, .int .i64 ok.te, .int .i64 ok.ts, .slice oA q oc] 37) := ⟨_, rfl⟩
        have hbe : Below wr.heap.size wr we := by rw [hwe]; exact below_alloc _ _
        have hce : Cells we wr.heap.size 37 [.int .i64 oe, .int .i64 on, .int .i64 ok.kind, .int .i64 ok.cell, .int .i64 ok.node, .int .i64 ok.tn, .int .i64 ok.te, .int .i64 ok.ts, .slice oA q oc] := by rw [hwe]; exact cells_new _ _ _ _ rfl
        have z8 := hce.cell (j := 8) rfl
        have HBA := Lib.hid (HB.out.trans (hbe.mono HB.out.size))
        obtain ⟨tt, htt⟩ : ∃ tt, total (os.take k) = tt := ⟨_, rfl⟩
        rw [htt] at ht HTK ⊢
        clear hr ho hoe hq HT htt hbe hce
        go_upto_region 7 with (fail)
        rw [← hwe]
        clear hwe x0 x1 x2 x3 x4 x5 x6 x7 x8
        by_cases hgr : 400 < tt + q
        · have e3 : decide ((tt : Int) + (q : Int) > 400) = true := by simp; omega
          have HE : Hid (ans = true) := Lib.hid (by rw [← HANS.out]; have := htl.out; rw [HTK.out] at this; simp; omega)
          go_wp2_with fail
          go_returns
          exact ⟨ret_val (congrArg Value.bool HE.out.symm), HBA.out⟩
        · have e3 : decide ((tt : Int) + (q : Int) > 400) = false := by simp; omega
          go_wp2_with fail
          go_roundw
          case rel => exact ⟨k + 1, by omega, by go_num, by rw [HTK.out]; simp, Lib.hid (by rw [HTK.out]; omega), HBA⟩
          case measure => simp [intOf]; omega
      · obtain rfl : k = n := by omega
        have e4 : os.take k = os := by rw [← HL.out]; exact List.take_length
        have HE : Hid (ans = false) := Lib.hid (by rw [← HANS.out]; have := HT.out; rw [e4] at this; simp; omega)
        clear e4
        go_wp2_with fail
        go_returns
        exact ⟨ret_val (congrArg Value.bool HE.out.symm), HB.out⟩
end Go.Proofs.Ytnbdgjaekjneaaa.Whl
