/-
  What the document's own disk of layer 4 does. Conditions: none.
-/
import Derived.Test.YtgljeocpegfbfaaDiskMath
import Derived.Test.YtgljeocpegfbfaaRows
import Derived.OpenShut
import Derived.WalkLawsBesides
import Derived.WalkSpells
import Derived.Handy
import Derived.Lib.Hide
import Derived.BigQuiet
import Derived.WalkKit
import Derived.ProofKit
namespace Go.Proofs.Ytgljeocpegfbfaa.Disk
open Go.RowKit Go.Proofs.Ytgljeocpegfbfaa.Mem

/-- The document's disk in block g. -/
def RDk (w : World) (g : Nat) (d : Ds) : Prop := Cells w g 44 [.string ⟨d.b.toArray⟩, .int .i64 (d.safe : Int), .int .i64 (d.size : Int), .int .i64 d.fuse, .bool d.down]
abbrev Own (g : Nat) : World → World → Prop := Only (fun k => k = g)
theorem own_trans {g : Nat} {a b c : World} (h : Own g a b) (k : Own g b c) : Own g a c := h.trans k fun _ _ h => h
theorem own_drew {g : Nat} {a b : World} (h : Own g a b) : Own g a b.drew := ⟨h.os, h.tape, h.output, h.size, h.block⟩
theorem own_set {w w' : World} {g : Nat} (h : Own g w w') (i : Nat) (u : Value) : Own g w (w'.setCell ⟨g, i, none⟩ u) := own_trans h (Only.of_set w' ⟨g, i, none⟩ u)
theorem RDk.only {S : Nat → Prop} {w w' : World} {g : Nat} {d : Ds} (h : RDk w g d) (ho : Only S w w') (hn : ¬ S g) : RDk w' g d := cells_only h ho hn
theorem RDk.later {w w' : World} {g : Nat} {d : Ds} (h : RDk w g d) (hb : Below w.heap.size w w') : RDk w' g d := Cells.later h hb
theorem RDk.drew {w : World} {g : Nat} {d : Ds} (h : RDk w g d) : RDk w.drew g d := h

theorem rnew_any (n : Int) (w : World) :
    Calls Try.prog 9 #[.int .i64 n] w fun e w' => (if n < 0 ∨ 1048576 < n then e = .returned (.pointer none) else e = .returned (.pointer (some ⟨w.heap.size, 0, none⟩)) ∧ RDk w' w.heap.size (empty n.toNat)) ∧ Below w.heap.size w w' := by
  by_cases h : n < 0 ∨ 1048576 < n
  · simp only [if_pos h]
    have h' : n < 0 ∨ (0 ≤ n ∧ 1048576 < n) := by omega
    clear h
    rcases h' with h | ⟨h, h2⟩
    all_goals
      go_enter Try.func9, Try.ntmps9
      go_wp2
      go_returns
      exact ⟨rfl, Below.refl _ _⟩
  · simp only [if_neg h]
    obtain ⟨m, rfl⟩ := Int.eq_ofNat_of_zero_le (show 0 ≤ n by omega)
    have h2 : m ≤ 1048576 := by omega
    have HC := Lib.hid (cells_new w 44 [.string ⟨#[]⟩, .int .i64 0, .int .i64 (m : Int), .int .i64 (-1), .bool false] #[.string ⟨#[]⟩, .int .i64 0, .int .i64 (m : Int), .int .i64 (-1), .bool false] rfl)
    clear h
    go_enter Try.func9, Try.ntmps9
    go_wp2
    go_returns
    exact ⟨⟨rfl, HC.out⟩, below_alloc _ _⟩

set_option maxHeartbeats 1000000 in
theorem rstep_any (g : Nat) (d : Ds) (w : World) (h : RDk w g d) (hd : d.Ok) :
    Calls Try.prog 31 #[.pointer (some ⟨g, 0, none⟩)] w fun e w' => e = .returned (.bool (d.fuse != 0)) ∧ RDk w' g (stepS d) ∧ Own g w w' := by
  obtain ⟨b, safe, size, fuse, down⟩ := d
  have c3 := h.cell (j := 3) rfl
  have c4 := h.cell (j := 4) rfl
  have f3 := h.frozen (j := 3) (by simp)
  have f4 := h.frozen (j := 4) (by simp)
  have hlo := hd.low
  have hhi := hd.high
  have HC := Lib.hid h
  clear h hd
  simp only at c3 c4 hlo hhi ⊢
  by_cases h0 : fuse = 0
  · subst h0
    have HS := Lib.hid (show stepS ⟨b, safe, size, 0, down⟩ = ⟨b, safe, size, 0, true⟩ from rfl)
    go_enter Try.func31, Try.ntmps31
    go_wp2
    go_returns
    exact ⟨rfl, by rw [HS.out]; exact HC.out.set_ 4 (.bool true), own_set (Only.refl _ _) _ _⟩
  · have hb0 : (fuse == 0) = false := by simpa using h0
    by_cases h1 : 0 < fuse
    · have HS := Lib.hid (show stepS ⟨b, safe, size, fuse, down⟩ = ⟨b, safe, size, fuse - 1, down⟩ by unfold stepS spend; rw [if_neg h0]; simp only; rw [if_neg (by omega)]; rfl)
      have HD := Lib.hid (show (fuse != 0) = true from bne_iff_ne.2 h0)
      clear h0
      go_enter Try.func31, Try.ntmps31
      go_wp2
      go_returns
      exact ⟨by rw [HD.out]; rfl, by rw [HS.out]; exact HC.out.set_ 3 (.int .i64 (fuse - 1)), own_set (Only.refl _ _) _ _⟩
    · have HS := Lib.hid (show stepS ⟨b, safe, size, fuse, down⟩ = ⟨b, safe, size, fuse, down⟩ by unfold stepS spend; rw [if_neg h0]; simp only; rw [if_pos (by omega)])
      have HD := Lib.hid (show (fuse != 0) = true from bne_iff_ne.2 h0)
      clear h0
      go_enter Try.func31, Try.ntmps31
      go_wp2
      go_returns
      exact ⟨by rw [HD.out]; rfl, by rw [HS.out]; exact HC.out, Only.refl _ _⟩

set_option maxHeartbeats 1000000 in
theorem rsync_any (g : Nat) (d : Ds) (w : World) (h : RDk w g d) (hd : d.Ok) :
    Calls Try.prog 15 #[.pointer (some ⟨g, 0, none⟩)] w fun e w' => e = .returned (.int .i64 (syncS d).1) ∧ RDk w' g (syncS d).2 ∧ Own g w w' := by
  have HST := Lib.hid (rstep_any g d w h hd)
  have HB := Lib.hid (show d.b.length ≤ 1048576 from Nat.le_trans hd.fits hd.size)
  obtain ⟨b, safe, size, fuse, down⟩ := d
  have c4 := h.cell (j := 4) rfl
  have HC := Lib.hid h
  clear h hd
  simp only at c4 HST HB
  cases down
  · by_cases h0 : fuse = 0
    · subst h0
      have HS := Lib.hid (show syncS ⟨b, safe, size, 0, false⟩ = (7, ⟨b, safe, size, 0, true⟩) from rfl)
      go_enter Try.func15, Try.ntmps15
      go_wp2_with fail
      refine HST.out.mono ?_
      rintro e w1 ⟨rfl, hr1, ho1⟩
      go_wp2_with fail
      go_returns
      exact ⟨by rw [HS.out]; rfl, by rw [HS.out]; exact hr1, ho1⟩
    · have HS := Lib.hid (show syncS ⟨b, safe, size, fuse, false⟩ = (0, ⟨b, b.length, size, spend fuse 1, false⟩) by unfold syncS; rw [if_neg (by simp), if_neg h0])
      have HX := Lib.hid (show stepS ⟨b, safe, size, fuse, false⟩ = ⟨b, safe, size, spend fuse 1, false⟩ from if_neg h0)
      have HD := Lib.hid (show (fuse != 0) = true from bne_iff_ne.2 h0)
      clear h0
      go_enter Try.func15, Try.ntmps15
      go_wp2_with fail
      refine HST.out.mono ?_
      rintro e w1 ⟨rfl, hr1, ho1⟩
      rw [HX.out] at hr1
      rw [HD.out]
      have d0 := hr1.cell (j := 0) rfl
      have d1 := hr1.cell (j := 1) rfl
      have g1 := hr1.frozen (j := 1) (by simp)
      have HR1 := Lib.hid hr1
      have HO1 := Lib.hid ho1
      clear hr1 ho1 c4
      simp only at d0 d1
      have hz : (ByteArray.mk b.toArray).size = b.length := by show b.toArray.size = _; rw [List.size_toArray]
      go_wp2_with fail
      go_returns
      exact ⟨by rw [HS.out]; rfl, by rw [HS.out]; exact HR1.out.set_ 1 (.int .i64 (b.length : Int)), own_set HO1.out _ _⟩
  · have HS := Lib.hid (show syncS ⟨b, safe, size, fuse, true⟩ = (7, ⟨b, safe, size, fuse, true⟩) from rfl)
    go_enter Try.func15, Try.ntmps15
    go_wp2_with fail
    go_returns
    exact ⟨by rw [HS.out]; rfl, by rw [HS.out]; exact HC.out, Only.refl _ _⟩
set_option maxHeartbeats 1000000 in
theorem rfuse_any (g : Nat) (d : Ds) (n : Int) (w : World) (h : RDk w g d) :
    Calls Try.prog 21 #[.pointer (some ⟨g, 0, none⟩), .int .i64 n] w fun e w' => e = .returned (.tuple #[]) ∧ RDk w' g (fuseS d n) ∧ Own g w w' := by
  obtain ⟨b, safe, size, fuse, down⟩ := d
  have c3 := h.cell (j := 3) rfl
  have f3 := h.frozen (j := 3) (by simp)
  have HC := Lib.hid h
  clear h
  simp only at c3
  by_cases hn : n < 0
  · have HS := Lib.hid (show fuseS ⟨b, safe, size, fuse, down⟩ n = ⟨b, safe, size, -1, down⟩ by unfold fuseS; rw [if_pos hn])
    go_enter Try.func21, Try.ntmps21
    go_wp2
    go_returns
    exact ⟨rfl, by rw [HS.out]; exact (HC.out.set_ 3 (.int .i64 n)).set_ 3 (.int .i64 (-1)), own_set (own_set (Only.refl _ _) _ _) _ _⟩
  · have HS := Lib.hid (show fuseS ⟨b, safe, size, fuse, down⟩ n = ⟨b, safe, size, n, down⟩ by unfold fuseS; rw [if_neg hn])
    go_enter Try.func21, Try.ntmps21
    go_wp2
    go_returns
    exact ⟨rfl, by rw [HS.out]; exact HC.out.set_ 3 (.int .i64 n), own_set (Only.refl _ _) _ _⟩

set_option maxHeartbeats 1000000 in
theorem rcut_any (g : Nat) (d : Ds) (n : Int) (w : World) (h : RDk w g d) (hd : d.Ok) :
    Calls Try.prog 19 #[.pointer (some ⟨g, 0, none⟩), .int .i64 n] w fun e w' => e = .returned (.int .i64 (cutS d n).1) ∧ RDk w' g (cutS d n).2 ∧ Own g w w' := by
  have hbl : d.b.length ≤ 1048576 := Nat.le_trans hd.fits hd.size
  have hsf := hd.safe
  obtain ⟨b, safe, size, fuse, down⟩ := d
  have c0 := h.cell (j := 0) rfl
  have c1 := h.cell (j := 1) rfl
  have c4 := h.cell (j := 4) rfl
  have f0 := h.frozen (j := 0) (by simp)
  have f1 := h.frozen (j := 1) (by simp)
  have HC := Lib.hid h
  clear h hd
  simp only at c0 c1 c4 hbl hsf
  have hz : (ByteArray.mk b.toArray).size = b.length := by show b.toArray.size = _; rw [List.size_toArray]
  cases down
  · by_cases hn : n < 0 ∨ (b.length : Int) < n
    · have HS := Lib.hid (show cutS ⟨b, safe, size, fuse, false⟩ n = (1, ⟨b, safe, size, fuse, false⟩) by unfold cutS; rw [if_neg (by simp), if_pos hn])
      have hn' : n < 0 ∨ (0 ≤ n ∧ (b.length : Int) < n) := by omega
      clear hn
      rcases hn' with hn | ⟨hn, hn2⟩
      all_goals
        go_enter Try.func19, Try.ntmps19
        go_wp2
        go_returns
        exact ⟨by rw [HS.out]; rfl, by rw [HS.out]; exact HC.out, Only.refl _ _⟩
    · obtain ⟨m, rfl⟩ := Int.eq_ofNat_of_zero_le (show 0 ≤ n by omega)
      have hm : m ≤ b.length := by omega
      have HS := Lib.hid (show cutS ⟨b, safe, size, fuse, false⟩ (m : Int) = (0, ⟨b.take m, min safe m, size, fuse, false⟩) by unfold cutS; rw [if_neg (by simp), if_neg hn]; simp)
      have hex : (ByteArray.mk b.toArray).extract 0 m = ⟨(b.take m).toArray⟩ := by
        apply ByteArray.ext
        rw [ByteArray.data_extract]
        simp
      clear hn
      by_cases hsm : m < safe
      · have HM := Lib.hid (show min safe m = m by omega)
        go_enter Try.func19, Try.ntmps19
        go_wp2
        go_returns
        exact ⟨by rw [HS.out]; rfl, by rw [HS.out, HM.out]; exact (HC.out.set_ 0 (.string ⟨(b.take m).toArray⟩)).set_ 1 (.int .i64 (m : Int)), own_set (own_set (Only.refl _ _) _ _) _ _⟩
      · have HM := Lib.hid (show min safe m = safe by omega)
        go_enter Try.func19, Try.ntmps19
        go_wp2
        go_returns
        exact ⟨by rw [HS.out]; rfl, by rw [HS.out, HM.out]; exact HC.out.set_ 0 (.string ⟨(b.take m).toArray⟩), own_set (Only.refl _ _) _ _⟩
  · have HS := Lib.hid (show cutS ⟨b, safe, size, fuse, true⟩ n = (7, ⟨b, safe, size, fuse, true⟩) from rfl)
    go_enter Try.func19, Try.ntmps19
    go_wp2
    go_returns
    exact ⟨by rw [HS.out]; rfl, by rw [HS.out]; exact HC.out, Only.refl _ _⟩

set_option maxHeartbeats 1000000 in
theorem rdrop_any (g : Nat) (d : Ds) (n : Int) (w : World) (h : RDk w g d) (hd : d.Ok) :
    Calls Try.prog 17 #[.pointer (some ⟨g, 0, none⟩), .int .i64 n] w fun e w' => e = .returned (.int .i64 (dropS d n).1) ∧ RDk w' g (dropS d n).2 ∧ Own g w w' := by
  have HST := Lib.hid (rstep_any g d w h hd)
  have hbl : d.b.length ≤ 1048576 := Nat.le_trans hd.fits hd.size
  have hsf := hd.safe
  obtain ⟨b, safe, size, fuse, down⟩ := d
  have c1 := h.cell (j := 1) rfl
  have c4 := h.cell (j := 4) rfl
  have HC := Lib.hid h
  clear h hd
  simp only at c1 c4 hbl hsf HST
  have hz : (ByteArray.mk b.toArray).size = b.length := by show b.toArray.size = _; rw [List.size_toArray]
  cases down
  · by_cases hn : n < 0 ∨ (safe : Int) < n
    · have HS := Lib.hid (show dropS ⟨b, safe, size, fuse, false⟩ n = (1, ⟨b, safe, size, fuse, false⟩) by unfold dropS; rw [if_neg (by simp), if_pos hn])
      have hn' : n < 0 ∨ (0 ≤ n ∧ (safe : Int) < n) := by omega
      clear hn
      rcases hn' with hn | ⟨hn, hn2⟩
      all_goals
        go_enter Try.func17, Try.ntmps17
        go_wp2_with fail
        go_returns
        exact ⟨by rw [HS.out]; rfl, by rw [HS.out]; exact HC.out, Only.refl _ _⟩
    · obtain ⟨m, rfl⟩ := Int.eq_ofNat_of_zero_le (show 0 ≤ n by omega)
      have hm : m ≤ safe := by omega
      by_cases h0 : fuse = 0
      · subst h0
        have HS := Lib.hid (show dropS ⟨b, safe, size, 0, false⟩ (m : Int) = (7, ⟨b, safe, size, 0, true⟩) by unfold dropS; rw [if_neg (by simp), if_neg hn, if_pos rfl])
        clear hn
        go_enter Try.func17, Try.ntmps17
        go_wp2_with fail
        refine HST.out.mono ?_
        rintro e w1 ⟨rfl, hr1, ho1⟩
        go_wp2_with fail
        go_returns
        exact ⟨by rw [HS.out]; rfl, by rw [HS.out]; exact hr1, ho1⟩
      · have HS := Lib.hid (show dropS ⟨b, safe, size, fuse, false⟩ (m : Int) = (0, ⟨b.drop m, safe - m, size, spend fuse 1, false⟩) by unfold dropS; rw [if_neg (by simp), if_neg hn, if_neg h0]; simp)
        have HX := Lib.hid (show stepS ⟨b, safe, size, fuse, false⟩ = ⟨b, safe, size, spend fuse 1, false⟩ from if_neg h0)
        have HD := Lib.hid (show (fuse != 0) = true from bne_iff_ne.2 h0)
        have hex : (ByteArray.mk b.toArray).extract m b.length = ⟨(b.drop m).toArray⟩ := by
          apply ByteArray.ext
          rw [ByteArray.data_extract]
          simp
          rw [List.take_of_length_le (by rw [List.length_drop]; exact Nat.le_refl _)]
        have HSM := Lib.hid (show (safe : Int) - (m : Int) = ((safe - m : Nat) : Int) by omega)
        clear hn h0
        go_enter Try.func17, Try.ntmps17
        go_wp2_with fail
        refine HST.out.mono ?_
        rintro e w1 ⟨rfl, hr1, ho1⟩
        rw [HX.out] at hr1
        rw [HD.out]
        have d0 := hr1.cell (j := 0) rfl
        have d1 := hr1.cell (j := 1) rfl
        have g0 := hr1.frozen (j := 0) (by simp)
        have g1 := hr1.frozen (j := 1) (by simp)
        have HR1 := Lib.hid hr1
        have HO1 := Lib.hid ho1
        clear hr1 ho1 c1 c4
        simp only at d0 d1
        go_wp2_with fail
        go_returns
        exact ⟨by rw [HS.out]; rfl, by rw [HS.out]; exact HSM.out ▸ (HR1.out.set_ 0 (.string ⟨(b.drop m).toArray⟩)).set_ 1 (.int .i64 ((safe : Int) - (m : Int))), own_set (own_set HO1.out _ _) _ _⟩
  · have HS := Lib.hid (show dropS ⟨b, safe, size, fuse, true⟩ n = (7, ⟨b, safe, size, fuse, true⟩) from rfl)
    go_enter Try.func17, Try.ntmps17
    go_wp2_with fail
    go_returns
    exact ⟨by rw [HS.out]; rfl, by rw [HS.out]; exact HC.out, Only.refl _ _⟩
end Go.Proofs.Ytgljeocpegfbfaa.Disk
