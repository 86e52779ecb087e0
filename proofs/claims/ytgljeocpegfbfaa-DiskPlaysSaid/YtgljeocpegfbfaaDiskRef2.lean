/-
  What the document's own disk of layer 4 does, more: Append, Crash. Conditions: none.
-/
import Derived.Test.YtgljeocpegfbfaaDiskRef
namespace Go.Proofs.Ytgljeocpegfbfaa.Disk
open Go.RowKit Go.Proofs.Ytgljeocpegfbfaa.Mem

/-- What Append has put when k bytes are put. -/
def mid (d : Ds) (s : List UInt8) (k : Nat) : Ds := { d with b := d.b ++ s.take k, fuse := spend d.fuse k }
theorem mid_ok {d : Ds} (hd : d.Ok) (s : List UInt8) (k : Nat) (hk : k ≤ left d.fuse s.length) (hf : d.b.length + s.length ≤ d.size) : (mid d s k).Ok := by
  have hl := left_le d.fuse s.length
  have hs := spend_low d.fuse k s.length hd.low hk
  have h1 := hd.safe
  have h2 := hd.high
  refine ⟨?_, ?_, hd.size, hs.1, Int.le_trans hs.2 h2⟩
  · show d.safe ≤ (d.b ++ s.take k).length
    rw [List.length_append]; omega
  · show (d.b ++ s.take k).length ≤ d.size
    rw [List.length_append, List.length_take]; omega

set_option maxHeartbeats 2000000 in
theorem rappend_any (g : Nat) (d : Ds) (s : ByteArray) (w : World) (h : RDk w g d) (hd : d.Ok) (hs : s.size ≤ 140737488355328) :
    Calls Try.prog 12 #[.pointer (some ⟨g, 0, none⟩), .string s] w fun e w' => e = .returned (.int .i64 (appendS d s.data.toList).1) ∧ RDk w' g (appendS d s.data.toList).2 ∧ Own g w w' := by
  have hsl := toList_size s
  have hbl : d.b.length ≤ 1048576 := Nat.le_trans hd.fits hd.size
  have hsz := hd.size
  have hfit := hd.fits
  have HD := Lib.hid hd
  have c0 := h.cell (j := 0) rfl
  have c2 := h.cell (j := 2) rfl
  have c4 := h.cell (j := 4) rfl
  have HC := Lib.hid h
  have hz : (ByteArray.mk d.b.toArray).size = d.b.length := by show d.b.toArray.size = _; rw [List.size_toArray]
  clear h hd
  by_cases hdn : d.down = true
  · have HS := Lib.hid (show appendS d s.data.toList = (7, d) from if_pos hdn)
    rw [hdn] at c4
    go_enter Try.func12, Try.ntmps12
    go_wp2_with fail
    go_returns
    exact ⟨by rw [HS.out]; rfl, by rw [HS.out]; exact HC.out, Only.refl _ _⟩
  · have hdf : d.down = false := by simpa using hdn
    rw [hdf] at c4
    by_cases hl : d.size < d.b.length + s.data.toList.length
    · have HS := Lib.hid (show appendS d s.data.toList = (6, d) by unfold appendS; rw [if_neg hdn, if_pos hl])
      go_enter Try.func12, Try.ntmps12
      go_wp2_with fail
      go_region
      go_wp2_with fail
      go_returns
      exact ⟨by rw [HS.out]; rfl, by rw [HS.out]; exact HC.out, own_drew (Only.refl _ _)⟩
    · have hm := left_le d.fuse s.data.toList.length
      have HS := Lib.hid (show appendS d s.data.toList = (if left d.fuse s.data.toList.length < s.data.toList.length then 7 else 0, { d with b := d.b ++ s.data.toList.take (left d.fuse s.data.toList.length), fuse := spend d.fuse (left d.fuse s.data.toList.length), down := decide (left d.fuse s.data.toList.length < s.data.toList.length) }) by unfold appendS; rw [if_neg hdn, if_neg hl])
      have hns : ¬ ((d.size : Int) - (d.b.length : Int) < (s.size : Int)) := by omega
      have hml : left d.fuse s.data.toList.length ≤ s.size := by omega
      have HLF : Hid (∀ k, k ≤ left d.fuse s.data.toList.length → k < s.size → (spend d.fuse k = 0 → left d.fuse s.data.toList.length = k) ∧ (spend d.fuse k ≠ 0 → k + 1 ≤ left d.fuse s.data.toList.length ∧ spend (spend d.fuse k) 1 = spend d.fuse (k + 1))) := Lib.hid fun k h1 h2 => by
        have h3 : k ≤ left d.fuse (k + 1) := by unfold left at h1 ⊢; split <;> rename_i hf <;> simp only [hf, if_true, if_false] at h1 <;> omega
        refine ⟨fun e => ?_, fun e => ⟨?_, spend_add d.fuse k 1 h3⟩⟩
        · unfold spend at e
          unfold left at h1 ⊢
          split <;> rename_i hf <;> simp only [hf, if_true, if_false] at h1 e <;> omega
        · unfold spend at e
          unfold left at h1 ⊢
          split <;> rename_i hf <;> simp only [hf, if_true, if_false] at h1 e <;> omega
      have HMO : Hid (∀ k, k ≤ left d.fuse s.data.toList.length → (mid d s.data.toList k).Ok) := Lib.hid fun k hk => mid_ok HD.out s.data.toList k hk (by omega)
      generalize left d.fuse s.data.toList.length = m at *
      clear hm hsl hl
      go_enter Try.func12, Try.ntmps12
      go_wp2_with fail
      go_region
      go_wp2_with fail
      go_loopw [5] (fun i wr => ∃ k : Nat, k ≤ m ∧ i = .int .i64 (k : Int) ∧ RDk wr g (mid d s.data.toList k) ∧ Own g w wr) (fun i _ => s.size - (intOf i).toNat)
      case atStart =>
        refine ⟨0, Nat.zero_le _, rfl, ?_, own_drew (Only.refl _ _)⟩
        have e : mid d s.data.toList 0 = d := by unfold mid; rw [spend_zero, List.take_zero, List.append_nil]
        rw [e]
        exact HC.out
      case round =>
        obtain ⟨k, hk, rfl, hr, ho⟩ := hrel
        have HR := Lib.hid hr
        have HO := Lib.hid ho
        clear hr ho c0 c2 c4
        by_cases hlt : k < s.size
        · have HST := Lib.hid (rstep_any g (mid d s.data.toList k) wr HR.out (HMO.out k hk))
          obtain ⟨hz1, hz2⟩ := HLF.out k hk hlt
          by_cases h0 : spend d.fuse k = 0
          · obtain rfl := hz1 h0
            have HD0 := Lib.hid (show ((mid d s.data.toList m).fuse != 0) = false by show (spend d.fuse m != 0) = false; rw [h0]; rfl)
            have HX := Lib.hid (show stepS (mid d s.data.toList m) = { d with b := d.b ++ s.data.toList.take m, fuse := spend d.fuse m, down := true } from if_pos h0)
            have HFI := Lib.hid (show decide (m < s.data.toList.length) = true from decide_eq_true (by rw [toList_size]; exact hlt))
            have HFJ := Lib.hid (show (if m < s.data.toList.length then (7 : Int) else 0) = 7 from if_pos (by rw [toList_size]; exact hlt))
            clear hz1 hz2 h0
            go_wp2_with fail
            refine HST.out.mono ?_
            rintro e w1 ⟨rfl, hr1, ho1⟩
            rw [HD0.out]
            rw [HX.out] at hr1
            have HR1 := Lib.hid hr1
            have HO1 := Lib.hid (own_trans HO.out ho1)
            clear hr1 ho1
            go_wp2_with fail
            go_returns
            exact ⟨by rw [HS.out, HFJ.out]; rfl, by rw [HS.out, HFI.out]; exact HR1.out, HO1.out⟩
          · obtain ⟨hk1, hsp⟩ := hz2 h0
            have HD0 := Lib.hid (show ((mid d s.data.toList k).fuse != 0) = true from bne_iff_ne.2 h0)
            have HX := Lib.hid (show stepS (mid d s.data.toList k) = { d with b := d.b ++ s.data.toList.take k, fuse := spend d.fuse (k + 1) } by
              have e : stepS (mid d s.data.toList k) = { mid d s.data.toList k with fuse := spend (spend d.fuse k) 1 } := if_neg h0
              rw [e, hsp]
              rfl)
            have hap : (ByteArray.mk (d.b ++ s.data.toList.take k).toArray) ++ s.extract k (k + 1) = ⟨(d.b ++ s.data.toList.take (k + 1)).toArray⟩ := by
              rw [bytes_app]
              apply ByteArray.ext
              apply Array.ext'
              show (d.b ++ s.data.toList.take k) ++ (s.extract k (k + 1)).data.toList = d.b ++ s.data.toList.take (k + 1)
              have e : (s.extract k (k + 1)).data.toList = (s.data.toList.drop k).take 1 := by
                rw [ByteArray.data_extract]
                simp
              rw [e, List.append_assoc, List.take_add]
            have hbz : (d.b ++ s.data.toList.take k).length ≤ 1048576 := by have h1 := HMO.out k hk; have h2 := h1.fits; have h3 := h1.size; exact Nat.le_trans h2 h3
            have hxz : (s.extract k (k + 1)).size = 1 := by rw [ByteArray.size_extract]; omega
            clear hz1 hz2 h0 hsp
            go_wp2_with fail
            refine HST.out.mono ?_
            rintro e w1 ⟨rfl, hr1, ho1⟩
            rw [HD0.out]
            rw [HX.out] at hr1
            have d0 := hr1.cell (j := 0) rfl
            have g0 := hr1.frozen (j := 0) (by simp)
            simp only at d0
            have HR1 := Lib.hid hr1
            have HO1 := Lib.hid (own_trans HO.out ho1)
            clear hr1 ho1
            generalize d.b ++ s.data.toList.take k = B at *
            go_wp2_with fail
            go_region
            go_wp2_with fail
            go_roundw
            case rel => exact ⟨k + 1, hk1, by go_num, HR1.out.set_ 0 (.string ⟨(d.b ++ s.data.toList.take (k + 1)).toArray⟩), own_drew (own_set HO1.out _ _)⟩
            case measure => simp [intOf]; omega
        · obtain rfl : k = m := by omega
          have hke : ¬ k < s.data.toList.length := by rw [toList_size]; exact hlt
          have HQ := Lib.hid (show ({ d with b := d.b ++ s.data.toList.take k, fuse := spend d.fuse k, down := decide (k < s.data.toList.length) } : Ds) = mid d s.data.toList k by
            unfold mid
            rw [decide_eq_false hke, ← hdf])
          have HFJ := Lib.hid (show (if k < s.data.toList.length then (7 : Int) else 0) = 0 from if_neg hke)
          clear hke
          go_wp2_with fail
          go_returns
          exact ⟨by rw [HS.out, HFJ.out]; rfl, by rw [HS.out, HQ.out]; exact HR.out, HO.out⟩

set_option maxHeartbeats 2000000 in
theorem rcrash_any (g : Nat) (d : Ds) (n : Int) (w : World) (h : RDk w g d) (hd : d.Ok) :
    Calls Try.prog 23 #[.pointer (some ⟨g, 0, none⟩), .int .i64 n] w fun e w' => e = .returned (.tuple #[]) ∧ RDk w' g (crashS d n) ∧ Own g w w' := by
  have hbl : d.b.length ≤ 1048576 := Nat.le_trans hd.fits hd.size
  have hsf := hd.safe
  have hkl := kept_le hd n
  have c0 := h.cell (j := 0) rfl
  have c1 := h.cell (j := 1) rfl
  have HC := Lib.hid h
  have hz : (ByteArray.mk d.b.toArray).size = d.b.length := by show d.b.toArray.size = _; rw [List.size_toArray]
  have hsi : (d.safe : Int) ≤ (d.b.length : Int) := by omega
  have hex : ∀ k, (ByteArray.mk d.b.toArray).extract 0 k = ⟨(d.b.take k).toArray⟩ := fun k => by
    apply ByteArray.ext
    rw [ByteArray.data_extract]
    simp
  have HEX := Lib.hid hex
  have hex0 := hex d.safe
  clear h hd hex
  go_enter Try.func23, Try.ntmps23
  go_wp2_with fail
  go_region
  go_wp2_with fail
  clear hex0
  go_loopw [4, 5] (fun s i wr => ∃ j : Nat, d.safe ≤ j ∧ j ≤ kept d n ∧ i = .int .i64 (j : Int) ∧ s = .string ⟨(d.b.take j).toArray⟩ ∧ RDk wr g d ∧ Own g w wr) (fun _ i _ => d.b.length - (intOf i).toNat)
  case atStart => exact ⟨d.safe, Nat.le_refl _, by unfold kept; omega, rfl, rfl, HC.out, own_drew (Only.refl _ _)⟩
  case round =>
    obtain ⟨j, hj1, hj2, rfl, rfl, hr, ho⟩ := hrel
    have d0 := hr.cell (j := 0) rfl
    have d1 := hr.cell (j := 1) rfl
    have HR := Lib.hid hr
    have HO := Lib.hid ho
    clear hr ho c0 c1
    by_cases hlt : j < kept d n
    · have h1 : (j : Int) < (d.b.length : Int) := by unfold kept at hlt; omega
      have h2 : (j : Int) - (d.safe : Int) < n := by unfold kept at hlt; omega
      have hex1 := HEX.out (j + 1)
      go_wp2_with fail
      go_roundw
      case rel => exact ⟨j + 1, by omega, by omega, by go_num, rfl, HR.out, HO.out⟩
      case measure => simp [intOf]; omega
    · obtain rfl : j = kept d n := by omega
      have hc : ¬ ((kept d n : Nat) : Int) < (d.b.length : Int) ∨ (((kept d n : Nat) : Int) < (d.b.length : Int) ∧ ¬ (((kept d n : Nat) : Int) - (d.safe : Int) < n)) := by
        unfold kept; omega
      have HS := Lib.hid (show crashS d n = { d with b := d.b.take (kept d n), safe := kept d n, fuse := -1, down := false } from rfl)
      have htl : (ByteArray.mk (d.b.take (kept d n)).toArray).size = kept d n := by show (d.b.take (kept d n)).toArray.size = _; rw [List.size_toArray, List.length_take]; omega
      have d3 := HR.out.cell (j := 3) rfl
      have d4 := HR.out.cell (j := 4) rfl
      have g0 := HR.out.frozen (j := 0) (by simp)
      have g1 := HR.out.frozen (j := 1) (by simp)
      have g3 := HR.out.frozen (j := 3) (by simp)
      have g4 := HR.out.frozen (j := 4) (by simp)
      generalize kept d n = q at *
      clear hlt hj1 hj2
      rcases hc with hc | ⟨hc, hc2⟩
      all_goals
        go_wp2_with fail
        go_returns
        exact ⟨rfl, by rw [HS.out]; exact (((HR.out.set_ 0 (.string ⟨(d.b.take q).toArray⟩)).set_ 1 (.int .i64 (q : Int))).set_ 3 (.int .i64 (-1))).set_ 4 (.bool false), own_set (own_set (own_set (own_set HO.out _ _) _ _) _ _) _ _⟩
end Go.Proofs.Ytgljeocpegfbfaa.Disk
