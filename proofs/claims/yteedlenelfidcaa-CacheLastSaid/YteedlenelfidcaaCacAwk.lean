/-
  Layer 17's laws: entries put from a new slice; the document's example. Conditions: none.
-/
import Derived.Test.YteedlenelfidcaaCacLaw
namespace Go.Proofs.Yteedlenelfidcaa.Cac
set_option maxRecDepth 100000
open Go.RowKit Go.Deep Go.Proofs.Yteedlenelfidcaa.Mem

theorem PutNew_any {B rb ac : Nat} {w : World} {R : Cc} {A : Option Addr} (es : List En) (cells : Array Value) (hc : cells.toList = (es.map En.vals).flatten) (h : CcAt B w rb R A ac) (hB : B ≤ w.heap.size) (hk : Cok R) (hl : es.length ≤ 1000) :
    Calls Try.prog 11 #[.pointer (some ⟨rb, 0, none⟩), .slice (some ⟨w.heap.size, 0, none⟩) es.length es.length] (w.alloc (.cells cells 38)) fun x w' => x = .returned (.int .i64 (putsE R es).1) ∧ CcStep B rb A w (putsE R es).2 w' := by
  obtain ⟨wd, hwd⟩ : ∃ W, W = w.alloc (.cells cells 38) := ⟨_, rfl⟩
  have hbd : Below w.heap.size w wd := by rw [hwd]; exact below_alloc _ _
  have hcd : Cells wd w.heap.size 38 (es.map En.vals).flatten := by rw [hwd]; exact cells_new _ _ _ _ hc
  have HLT : w.heap.size < wd.heap.size := by rw [hwd]; show w.heap.size < (w.heap.push _).size; rw [Array.size_push]; exact Nat.lt_succ_self _
  have hsl : Sl wd (some ⟨w.heap.size, 0, none⟩) 4 (es.map En.vals) := cells_sl hcd (fit_es es).len
  rw [← hwd]
  refine (Puts_any (h.later hbd) (Nat.le_trans hB hbd.size) hk hsl (fun _ k e => ?_) hl).mono fun x w' q => ⟨q.1, CxStep.before hbd q.2⟩
  have e2 : w.heap.size = k := Option.some.inj e
  refine ⟨fun e3 => ?_, ?_⟩
  · have := (h.lt e3).2; omega
  · rw [← e2]; exact HLT
def ec (c : Int) : En := ⟨c, 0, 0, 0⟩
theorem awake_any (w : World) : Calls Try.prog 7 #[] w fun e w' => e = .returned (.bool true) ∧ Below w.heap.size w w' := by
  have HN := Lib.hid (New_any w 2 (by decide) (by decide))
  obtain ⟨B, hB⟩ : ∃ B, w.heap.size = B := ⟨_, rfl⟩
  have HB0 := Lib.hid hB
  rw [hB] at HN ⊢
  clear hB
  go_enter Try.func7, Try.ntmps7
  go_wp2_with fail
  refine HN.out.mono ?_
  rintro e w1 ⟨rfl, h1, hb1⟩
  have hs1 : B ≤ w1.heap.size := by rw [← HB0.out]; exact (by rw [← HB0.out] at hb1; exact hb1.size)
  have HP := Lib.hid (PutNew_any [ec 1, ec 2] #[.int .i64 1, .int .i64 0, .int .i64 0, .int .i64 0, .int .i64 2, .int .i64 0, .int .i64 0, .int .i64 0] rfl h1 hs1 (Cok.new (by decide) (by decide)) (by decide))
  have HB1 := Lib.hid hb1
  have HR1 := Lib.hid h1
  have HS1 := Lib.hid hs1
  have HV : Hid (putsE ⟨2, []⟩ [ec 1, ec 2] = (2, ⟨2, [ec 1, ec 2]⟩)) := Lib.hid (by decide)
  rw [HV.out] at HP
  clear h1 hb1 hs1 HN HV
  go_wp2_with fail
  refine (show Calls Try.prog 11 #[.pointer (some ⟨B, 0, none⟩), .slice (some ⟨w1.heap.size, 0, none⟩) 2 2] _ _ from HP.out).mono ?_
  rintro e w2 ⟨rfl, A2, c2, h2, ho2, hg2⟩
  have hb2 : Below B w1 w2 := CxStep.below ⟨A2, c2, h2, ho2, hg2⟩ HR1.out HS1.out
  have hs2 := Nat.le_trans HS1.out hb2.size
  have HG := Lib.hid (Get_any h2 1 hs2 ⟨by decide, by decide, by decide, by decide⟩)
  have HB2 := Lib.hid (HB1.out.trans hb2)
  have HR2 := Lib.hid h2
  have HS2 := Lib.hid hs2
  have HV : Hid (useE ⟨2, [ec 1, ec 2]⟩ 1 = ⟨2, [ec 2, ec 1]⟩) := Lib.hid (by decide)
  rw [HV.out] at HG
  clear h2 ho2 hg2 hb2 hs2 HP HV HR1 HS1
  go_wp2_with fail
  refine HG.out.mono ?_
  rintro e w3 ⟨rfl, A3, c3, h3, ho3, hg3⟩
  have hb3 : Below B w2 w3 := CxStep.below ⟨A3, c3, h3, ho3, hg3⟩ HR2.out HS2.out
  have hs3 := Nat.le_trans HS2.out hb3.size
  have HP := Lib.hid (PutNew_any [ec 3] #[.int .i64 3, .int .i64 0, .int .i64 0, .int .i64 0] rfl h3 hs3 ⟨by decide, by decide, by decide, by decide⟩ (by decide))
  have HB3 := Lib.hid (HB2.out.trans hb3)
  have HR3 := Lib.hid h3
  have HS3 := Lib.hid hs3
  have HV : Hid (putsE ⟨2, [ec 2, ec 1]⟩ [ec 3] = (1, ⟨2, [ec 1, ec 3]⟩)) := Lib.hid (by decide)
  rw [HV.out] at HP
  clear h3 ho3 hg3 hb3 hs3 HG HV HR2 HS2
  go_wp2_with fail
  refine (show Calls Try.prog 11 #[.pointer (some ⟨B, 0, none⟩), .slice (some ⟨w3.heap.size, 0, none⟩) 1 1] _ _ from HP.out).mono ?_
  rintro e w4 ⟨rfl, A4, c4, h4, ho4, hg4⟩
  have hb4 : Below B w3 w4 := CxStep.below ⟨A4, c4, h4, ho4, hg4⟩ HR3.out HS3.out
  have HP1 := Lib.hid (Peek_any h4 1)
  have HB4 := Lib.hid (HB3.out.trans hb4)
  have HR4 := Lib.hid h4
  have HS4 := Lib.hid (Nat.le_trans HS3.out hb4.size)
  have HV : Hid (hasE 1 [ec 1, ec 3] = true ∧ getD0 1 [ec 1, ec 3] = ec 1 ∧ hasE 2 [ec 1, ec 3] = false ∧ getD0 2 [ec 1, ec 3] = en0) := Lib.hid (by decide)
  dsimp only at HP1
  rw [HV.out.1, HV.out.2.1] at HP1
  unfold En.v ec at HP1
  clear h4 ho4 hg4 hb4 HP HR3 HS3
  go_wp2_with fail
  refine HP1.out.mono ?_
  rintro e w5 ⟨rfl, hb5⟩
  obtain ⟨w6, hw6⟩ : ∃ W, W = w5.alloc (.cells #[.int .i64 1, .int .i64 0, .int .i64 0, .int .i64 0] 38) := ⟨_, rfl⟩
  have hb6 : Below w5.heap.size w5 w6 := by rw [hw6]; exact below_alloc _ _
  have hb46 := hb5.trans (hb6.mono hb5.size)
  have HP2 := Lib.hid (Peek_any (HR4.out.later hb46) 2)
  dsimp only at HP2
  rw [HV.out.2.2.1, HV.out.2.2.2] at HP2
  unfold En.v en0 at HP2
  have HB6 := Lib.hid (HB4.out.trans (hb46.mono HS4.out))
  have HS6 := Lib.hid (Nat.le_trans HS4.out hb46.size)
  clear hb5 hb6 hb46 HP1 HV
  go_upto_region 7 with (fail)
  rw [← hw6]
  clear hw6
  go_wp2_with fail
  refine HP2.out.mono ?_
  rintro e w7 ⟨rfl, hb7⟩
  obtain ⟨w8, hw8⟩ : ∃ W, W = w7.alloc (.cells #[.int .i64 0, .int .i64 0, .int .i64 0, .int .i64 0] 38) := ⟨_, rfl⟩
  have hb8 : Below w7.heap.size w7 w8 := by rw [hw8]; exact below_alloc _ _
  have HB8 := Lib.hid (HB6.out.trans ((hb7.trans (hb8.mono hb7.size)).mono HS6.out))
  clear hb7 hb8
  go_upto_region 8 with (fail)
  rw [← hw8]
  clear hw8
  go_wp2_with fail
  go_returns
  exact ⟨rfl, HB8.out⟩
end Go.Proofs.Yteedlenelfidcaa.Cac
