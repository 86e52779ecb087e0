/-
  The library's Grow and Concat at slices of ints; Reverse at one. Conditions: none.
-/
import Derived.Test.YteieehlllfnmcaaInts
namespace Go.Proofs.Yteieehlllfnmcaa.Mem
set_option maxRecDepth 100000
open Go.RowKit Go.Deep

/-- A number that counts, as one cell. -/
abbrev nv : Nat → List Value := fv (fun n : Nat => (n : Int))
/-- A row of such numbers of the call's own. -/
abbrev NR (B : Nat) (w : World) (v : Value) (l : List Nat) : Prop := OwnG 3 1 nv B w v l
/-- Lists one behind the other. -/
def allN (ls : List (Option Addr × Nat × List Nat)) : List Nat := (ls.map fun x => x.2.2).flatten
/-- A slice of slices. -/
def LsN (w : World) (O : Option Addr) (ls : List (Option Addr × Nat × List Nat)) : Prop := ∀ k (h : k < ls.length), ∃ g off, O = some ⟨g, off, none⟩ ∧ w.cell? ⟨g, off + k, none⟩ = some (.slice ls[k].1 ls[k].2.2.length ls[k].2.1) ∧ Sl w ls[k].1 1 (ls[k].2.2.map nv) ∧ (ls[k].1 = none → ls[k].2.1 = 0)
theorem LsN.later {w w' : World} {O : Option Addr} {ls : List (Option Addr × Nat × List Nat)} (h : LsN w O ls) (hb : Below w.heap.size w w') : LsN w' O ls := fun k hk => by
  obtain ⟨g, off, e, hc, hi⟩ := h k hk
  exact ⟨g, off, e, (hb.cell (block_of_cell hc)).trans hc, hi.1.later hb, hi.2⟩
theorem allN_take {ls : List (Option Addr × Nat × List Nat)} {k : Nat} (h : k < ls.length) : allN (ls.take (k + 1)) = allN (ls.take k) ++ ls[k].2.2 := by
  unfold allN
  rw [List.take_succ_eq_append_getElem h, List.map_append, List.flatten_append]
  simp
theorem allN_len {ls : List (Option Addr × Nat × List Nat)} (k : Nat) : (allN (ls.take k)).length ≤ (allN ls).length := by
  have h : allN ls = allN (ls.take k) ++ allN (ls.drop k) := by
    unfold allN
    rw [← List.flatten_append, ← List.map_append, List.take_append_drop]
  rw [h, List.length_append]
  omega
set_option maxHeartbeats 1000000 in
theorem grow_int (n : Nat) (w : World) (hn : n ≤ 100000) :
    Calls Try.prog 37 #[.slice none 0 0, .int .i64 (n : Int)] w fun e w' => ∃ v, e = .returned v ∧ NR w.heap.size w' v [] ∧ Below w.heap.size w w' := by
  by_cases h0 : n = 0
  · subst h0
    go_enter Try.func37, Try.ntmps37
    go_wp2_with fail
    go_returns
    exact ⟨_, rfl, OwnG.nil _ _ _ _ _, Below.refl _ _⟩
  · have h1 : 0 < n := by omega
    obtain ⟨i0, hi, hz0, hz1, hz2⟩ := info_parts elI.info
    have HA := Lib.hid (Lib.run_append_nil_zeros (P := Try.prog) w 24 3 24 3 i0 _ .i64 .i64 Try.underlying24 Try.underlying3 hi hz0 n h1 (by omega) (by omega) (by rw [hz2]; omega))
    obtain ⟨cap, hcap⟩ : ∃ c, grownCap w n 0 3 = c := ⟨_, rfl⟩
    have hc1 : n ≤ cap := by rw [← hcap]; exact grownCap_ge _ _ _ _
    have HC2 : Hid (cap ≤ maxLen) := Lib.hid (by rw [← hcap]; exact grownCap_le_maxLen _ _ _ _ (by unfold maxLen; omega))
    rw [hcap] at HA
    obtain ⟨cur, hcur⟩ : ∃ c, Builtin.zeroCells (Value.int .i64 0).cells n ++ Builtin.zeroCells (Value.int .i64 0).cells (cap - n) = c := ⟨_, rfl⟩
    rw [hcur] at HA
    have HS : Hid (cur.size = cap * 1) := Lib.hid (by
      rw [← hcur, Array.size_append, size_zeroCells, size_zeroCells]
      show n * 1 + (cap - n) * 1 = _
      omega)
    clear hcur hcap
    obtain ⟨w2, hw2⟩ : ∃ v, v = w.drew.alloc (.cells cur 3) := ⟨_, rfl⟩
    have HROW : Hid (NR w.heap.size w2 (.slice (some ⟨w.heap.size, 0, none⟩) 0 cap) []) := Lib.hid (by
      rw [hw2]
      exact World.ownsRow_made (base := w.heap.size) (e := 3) (size := 1) w.drew cur cap (Nat.le_refl _) HC2.out HS.out)
    have HB : Hid (Below w.heap.size w w2) := Lib.hid (by
      rw [hw2]
      exact (Below.refl _ _).drew.alloc (Nat.le_refl _) _)
    rw [← hw2] at HA
    clear hw2
    go_enter Try.func37, Try.ntmps37
    go_wp2_with (at_builtin
                 refine Lib.wpList_append_run w rfl (.tmp 20) (.tmp 21) 24 3 rfl (.slice none 0 0) (.int .i64 (n : Int)) rfl rfl _ _ HA.out ?_)
    go_returns
    exact ⟨_, rfl, HROW.out, HB.out⟩
set_option maxHeartbeats 2000000 in
theorem concat_int (O : Option Addr) (ls : List (Option Addr × Nat × List Nat)) (cap : Nat) (w : World) (h : LsN w O ls) (hl : ls.length ≤ 100) (ht : (allN ls).length ≤ 1000) :
    Calls Try.prog 36 #[.slice O ls.length cap] w fun e w' => ∃ v, e = .returned v ∧ NR w.heap.size w' v (allN ls) ∧ Below w.heap.size w w' := by
  have HL := Lib.hid h
  have HT := Lib.hid (fun k => Nat.le_trans (allN_len (ls := ls) k) ht)
  obtain ⟨n, hn⟩ : ∃ n, ls.length = n := ⟨_, rfl⟩
  have HN := Lib.hid hn
  rw [hn] at hl ⊢
  clear h hn
  go_enter Try.func36, Try.ntmps36
  go_wp2_with fail
  go_loopw [3, 5, 11] (fun s _ i wr => ∃ k : Nat, k ≤ n ∧ i = .int .i64 (k : Int) ∧ s = .int .i64 ((allN (ls.take k)).length : Int) ∧ w = wr) (fun _ _ i _ => n - (intOf i).toNat)
  case atStart => exact ⟨0, Nat.zero_le _, rfl, rfl, rfl⟩
  case round =>
    obtain ⟨k, hk, rfl, rfl, rfl⟩ := hrel
    have t0 := HT.out k
    by_cases hlt : k < n
    · have hlt' : k < ls.length := by have := HN.out; omega
      obtain ⟨g, off, hO, hc, hx⟩ := HL.out k hlt'
      clear hx
      subst hO
      have HE := Lib.hid (allN_take hlt')
      have t1 := HT.out (k + 1)
      rw [HE.out, List.length_append] at t1
      have HE2 : Hid ((allN (ls.take (k + 1))).length = (allN (ls.take k)).length + ls[k].2.2.length) := Lib.hid (by rw [HE.out, List.length_append])
      obtain ⟨s, hs⟩ : ∃ s, (allN (ls.take k)).length = s := ⟨_, rfl⟩
      obtain ⟨m, hm⟩ : ∃ m, ls[k].2.2.length = m := ⟨_, rfl⟩
      obtain ⟨A, hA⟩ : ∃ A, ls[k].1 = A := ⟨_, rfl⟩
      obtain ⟨c, hcc⟩ : ∃ c, ls[k].2.1 = c := ⟨_, rfl⟩
      rw [hs, hm] at HE2 t1
      rw [hs] at t0
      rw [hA, hm, hcc] at hc
      rw [hs]
      clear hs hm hA hcc HE hlt'
      go_wp2_with fail
      go_roundw
      case rel => exact ⟨k + 1, by omega, by go_num, by rw [HE2.out]; go_num, trivial⟩
      case measure => simp [intOf]; omega
    · obtain rfl : k = n := by omega
      have HF : Hid (allN (ls.take k) = allN ls) := Lib.hid (by rw [List.take_of_length_le (by have := HN.out; omega)])
      rw [HF.out] at t0 ⊢
      obtain ⟨tot, htot⟩ : ∃ t, (allN ls).length = t := ⟨_, rfl⟩
      rw [htot] at t0 ⊢
      clear htot HF
      go_wp2_with fail
      refine (grow_int tot w (by omega)).mono ?_
      rintro e w1 ⟨v, rfl, hrow, hb1⟩
      have HROW := Lib.hid hrow
      have HB1 := Lib.hid hb1
      clear hrow hb1
      go_wp2_with fail
      go_loopw [6, 8, 27] (fun v _ i wr => ∃ k2 : Nat, k2 ≤ k ∧ i = .int .i64 (k2 : Int) ∧ NR w.heap.size wr v (allN (ls.take k2)) ∧ Below w.heap.size w wr) (fun _ _ i _ => k - (intOf i).toNat)
      case atStart => exact ⟨0, Nat.zero_le _, rfl, HROW.out, HB1.out⟩
      case round =>
        obtain ⟨k2, hk2, rfl, hrow, hbr⟩ := hrel
        have HRW := Lib.hid hrow
        have HBR := Lib.hid hbr
        by_cases hlt2 : k2 < k
        · have hlt' : k2 < ls.length := by have := HN.out; omega
          obtain ⟨g, off, hO, hc, hit⟩ := (HL.out.later hbr) k2 hlt'
          subst hO
          have HE := Lib.hid (allN_take hlt')
          have t1 := HT.out (k2 + 1)
          rw [HE.out, List.length_append] at t1
          have HTT := Lib.hid t1
          have HIT := Lib.hid hit
          obtain ⟨L, hL⟩ : ∃ L, ls[k2].2.2 = L := ⟨_, rfl⟩
          obtain ⟨A, hA⟩ : ∃ A, ls[k2].1 = A := ⟨_, rfl⟩
          obtain ⟨c, hcc⟩ : ∃ c, ls[k2].2.1 = c := ⟨_, rfl⟩
          rw [hL] at HE HTT
          rw [hA, hL, hcc] at HIT
          rw [hA, hL, hcc] at hc
          obtain ⟨L0, hL0⟩ : ∃ L0, allN (ls.take k2) = L0 := ⟨_, rfl⟩
          rw [hL0] at HE HTT HRW
          obtain ⟨Ax, cx, hvx⟩ := row_slice HRW.out
          obtain ⟨nx, hnx⟩ : ∃ n, L0.length = n := ⟨_, rfl⟩
          rw [hnx] at hvx
          subst hvx
          obtain ⟨m, hm⟩ : ∃ m, L.length = m := ⟨_, rfl⟩
          have HM := Lib.hid hm
          rw [hm] at hc
          clear t1 hit hL hA hcc hrow hbr hlt' hL0 hm hnx
          go_wp2_with (at_builtin
                       obtain ⟨A', n', c', w4, hrun, hrow4, ho4, hg4⟩ := OwnG.icat HRW.out HIT.out.1 HIT.out.2 (by have := HBR.out.size; omega) (by have := HTT.out; omega)
                       rw [HM.out] at hrun
                       refine Lib.wpList_append_run _ rfl (.tmp 31) (.tmp 32) 24 24 rfl (.slice Ax nx cx) (.slice A m c) rfl rfl _ _ hrun ?_
                       have HO4 := Lib.hid hrow4
                       have HB4 := Lib.hid (HBR.out.trans (ho4.below HBR.out.size fun k hk => (HRW.out.lt (by rw [own_blk]; exact hk.symm)).1))
                       clear ho4 hg4 hrow4 hrun)
          go_roundw
          case rel => exact ⟨k2 + 1, by omega, by go_num, by rw [HE.out]; exact HO4.out, HB4.out⟩
          case measure => simp [intOf]; omega
        · obtain rfl : k2 = k := by omega
          have HF : Hid (allN (ls.take k2) = allN ls) := Lib.hid (by rw [List.take_of_length_le (by have := HN.out; omega)])
          clear hrow hbr
          go_wp2_with fail
          go_returns
          exact ⟨_, rfl, by have h := HRW.out; rw [HF.out] at h; exact h, HBR.out⟩
end Go.Proofs.Yteieehlllfnmcaa.Mem
