/-
  Layer 18's laws: the document's example. Conditions: none.
-/
import Derived.Test.YtiobblmagjbhjaaLeaLaw
namespace Go.Proofs.Ytiobblmagjbhjaa.Lea
set_option maxRecDepth 100000
open Go.RowKit Go.Deep Go.Proofs.Ytiobblmagjbhjaa.Mem

def tidA : Lt := ⟨0, 0, 1⟩
def tidB : Lt := ⟨0, 0, 2⟩
/-- Hold of a new slice. -/
theorem HoldNew_any {B tb g : Nat} {w : World} {T : List Sv} (h : Tb B w tb g T) (who : Lt) (u : Int) (l : List Int) (cells : Array Value) (hc : cells.toList = l.map fun c => Value.int .i64 c) (hn : l.length ≤ 1000) :
    Calls Try.prog 10 #[.pointer (some ⟨tb, 0, none⟩), .agg #[.int .i64 who.node, .int .i64 who.epoch, .int .i64 who.seq], .int .i64 u, .slice (some ⟨w.heap.size, 0, none⟩) l.length l.length] (w.alloc (.cells cells 3)) fun e w' => e = .returned (.int .i64 (errT T who l)) ∧ Tb B w' tb g (holdT T who u l) ∧ Only (fun j => j = g) w w' := by
  obtain ⟨wd, hwd⟩ : ∃ W, W = w.alloc (.cells cells 3) := ⟨_, rfl⟩
  have hbd : Below w.heap.size w wd := by rw [hwd]; exact below_alloc _ _
  have hcd : Cells wd w.heap.size 3 (l.map fun c => Value.int .i64 c) := by rw [hwd]; exact cells_new _ _ _ _ hc
  rw [← hwd]
  refine (Hold_any (h.later hbd) who u (lc := l.length) (fun k hk => ⟨_, 0, rfl, ?_⟩) (fun _ k e => ?_) hn).mono fun e w' z => ⟨z.1, z.2.1, (Only.of_below hbd).trans z.2.2 fun _ _ e => e⟩
  · rw [Nat.zero_add]
    exact hcd.cell (by rw [List.getElem?_map, List.getElem?_eq_getElem hk]; rfl)
  · have e2 : w.heap.size = k := Option.some.inj e
    have := h.glt.2
    omega
set_option maxHeartbeats 1000000 in
theorem awake_any (w : World) : Calls Try.prog 7 #[] w fun e w' => e = .returned (.bool true) ∧ Below w.heap.size w w' := by
  have HN := Lib.hid (New_any w 4 (by decide) (by decide))
  obtain ⟨B, hB⟩ : ∃ B, w.heap.size = B := ⟨_, rfl⟩
  rw [hB] at HN ⊢
  have HBE := Lib.hid hB
  clear hB
  go_enter Try.func7, Try.ntmps7
  go_wp2_with fail
  refine HN.out.mono ?_
  rintro e w1 ⟨tb, g, rfl, h1, hb1⟩
  have hsz : B ≤ w1.heap.size := by rw [← HBE.out] at hb1 ⊢; exact hb1.size
  have hgl := h1.glt
  have HSZ := Lib.hid hsz
  have HT1 := Lib.hid h1
  have HB1 := Lib.hid hb1
  obtain ⟨T0, hT0⟩ : ∃ T0, T0 = List.replicate 4 sv0 := ⟨_, rfl⟩
  obtain ⟨T1, hT1⟩ : ∃ T1, T1 = holdT T0 tidA 5 [1, 2] := ⟨_, rfl⟩
  have HE1 : Hid (errT T0 tidA [1, 2] = 0 ∧ errT T1 tidB [2] = 12 ∧ holdT T1 tidB 9 [2] = T1 ∧ goneT (byTime 5) 0 T1 = [1, 2]) := Lib.hid (by rw [hT1, hT0]; decide)
  rw [← hT0] at HT1
  have HTT := Lib.hid hT1
  clear h1 hb1 HN hT1 hT0
  obtain ⟨xa, hxa⟩ : ∃ x, w1.heap.size = x := ⟨_, rfl⟩
  rw [hxa] at hsz hgl
  have hbx : Below w1.heap.size w1 (w1.alloc (.cells #[.int .i64 0, .int .i64 0, .int .i64 1] 34)) := below_alloc _ _
  have hcx : Cells (w1.alloc (.cells #[.int .i64 0, .int .i64 0, .int .i64 1] 34)) xa 34 (lt3 tidA) := by rw [← hxa]; exact cells_new _ _ _ _ rfl
  have hsx : (w1.alloc (.cells #[.int .i64 0, .int .i64 0, .int .i64 1] 34)).heap.size = xa + 1 := by show (w1.heap.push _).size = _; rw [Array.size_push, hxa]
  obtain ⟨wx, hwx⟩ : ∃ W, W = w1.alloc (.cells #[.int .i64 0, .int .i64 0, .int .i64 1] 34) := ⟨_, rfl⟩
  rw [← hwx] at hbx hcx hsx
  obtain ⟨w2, hw2⟩ : ∃ W, W = wx.alloc (.cells #[.int .i64 0, .int .i64 0, .int .i64 2] 34) := ⟨_, rfl⟩
  have hby : Below wx.heap.size wx w2 := by rw [hw2]; exact below_alloc _ _
  have hcy : Cells w2 (xa + 1) 34 (lt3 tidB) := by rw [hw2, ← hsx]; exact cells_new _ _ _ _ rfl
  have hb2 := hbx.trans (hby.mono hbx.size)
  have hcx2 := hcx.later hby
  have HT2 := Lib.hid (HT1.out.later hb2)
  have HO2 : Hid (Only (fun j => j = g) w1 w2) := Lib.hid (Only.of_below hb2)
  have HCY : Hid (∀ wr, Only (fun j => j = g) w2 wr → Cells wr (xa + 1) 34 (lt3 tidB)) := Lib.hid fun wr ho => cells_only hcy ho fun e => by omega
  have y0 := hcx2.cell (j := 0) rfl
  have y1 := hcx2.cell (j := 1) rfl
  have y2 := hcx2.cell (j := 2) rfl
  have HH1 := Lib.hid (HoldNew_any HT2.out tidA 5 [1, 2] #[.int .i64 1, .int .i64 2] rfl (by decide))
  rw [← HTT.out, HE1.out.1] at HH1
  clear hbx hcx hsx hby hcy hb2 hcx2 HT1
  go_upto_region 3 with (fail)
  rw [← hwx, ← hw2]
  clear hwx hw2 hxa
  go_wp2_with fail
  refine (show Calls Try.prog 10 #[.pointer (some ⟨tb, 0, none⟩), .agg #[.int .i64 0, .int .i64 0, .int .i64 1], .int .i64 5, .slice (some ⟨w2.heap.size, 0, none⟩) 2 2] _ _ from HH1.out).mono ?_
  rintro e w3 ⟨rfl, ht3, ho3⟩
  have hcy := HCY.out w3 ho3
  have z0 := hcy.cell (j := 0) rfl
  have z1 := hcy.cell (j := 1) rfl
  have z2 := hcy.cell (j := 2) rfl
  have HO3 : Hid (Only (fun j => j = g) w1 w3) := Lib.hid (HO2.out.trans ho3 fun _ _ e => e)
  have HH2 := Lib.hid (HoldNew_any ht3 tidB 9 [2] #[.int .i64 2] rfl (by decide))
  rw [HE1.out.2.1, HE1.out.2.2.1] at HH2
  clear hcy ht3 ho3 HH1 HO2 HT2 y0 y1 y2
  go_wp2_with fail
  refine (show Calls Try.prog 10 #[.pointer (some ⟨tb, 0, none⟩), .agg #[.int .i64 0, .int .i64 0, .int .i64 2], .int .i64 9, .slice (some ⟨w3.heap.size, 0, none⟩) 1 1] _ _ from HH2.out).mono ?_
  rintro e w4 ⟨rfl, ht4, ho4⟩
  have HO4 : Hid (Only (fun j => j = g) w1 w4) := Lib.hid (HO3.out.trans ho4 fun _ _ e => e)
  have HEX := Lib.hid (Expire_any ht4 5)
  rw [HE1.out.2.2.2] at HEX
  clear ht4 ho4 HH2 HO3 z0 z1 z2
  go_wp2_with fail
  refine HEX.out.mono ?_
  rintro e w5 ⟨A5, n5, c5, rfl, hr5, ht5, ho5⟩
  obtain ⟨hn5, hir⟩ := OwnG.irow hr5
  have hid : ([1, 2] : List Int).map (fun x : Int => x) = [1, 2] := rfl
  rw [hid] at hir
  have hn5 : n5 = 2 := hn5
  subst hn5
  obtain ⟨w6, hw6⟩ : ∃ W, W = w5.alloc (.cells #[.int .i64 1, .int .i64 2] 3) := ⟨_, rfl⟩
  have hb6 : Below w5.heap.size w5 w6 := by rw [hw6]; exact below_alloc _ _
  have hc6 : Cells w6 w5.heap.size 3 [.int .i64 1, .int .i64 2] := by rw [hw6]; exact cells_new _ _ _ _ rfl
  have hir6 : IRow w6 (some ⟨w5.heap.size, 0, none⟩) [1, 2] := fun k hk => ⟨_, 0, rfl, by
    rw [Nat.zero_add]
    refine hc6.cell ?_
    match k, hk with
    | 0, _ => rfl
    | 1, _ => rfl⟩
  have HSM := Lib.hid (Same_any A5 (some ⟨w5.heap.size, 0, none⟩) [1, 2] [1, 2] c5 2 w6 (hir.later hb6) hir6 (by decide))
  rw [decide_eq_true rfl, hw6] at HSM
  have HO6 : Hid (Only (fun j => j = g) w1 w6) := Lib.hid ((HO4.out.trans ho5 fun _ _ e => e).trans (Only.of_below hb6) fun _ _ e => e)
  have HW6 := Lib.hid hw6
  clear hr5 ht5 ho5 hir hb6 hc6 hir6 HEX HO4 hid hw6
  go_wp2_with fail
  refine (show Calls Try.prog 12 #[.slice A5 2 c5, .slice (some ⟨w5.heap.size, 0, none⟩) 2 2] _ _ from HSM.out).mono ?_
  rintro e w7 ⟨rfl, hb7⟩
  rw [← HW6.out] at hb7
  have HBF : Hid (Below B w w7) := Lib.hid (by
    have h5 : Only (fun j => j = g) w1 w7 := HO6.out.trans (Only.of_below hb7) fun _ _ e => e
    have h6 := h5.below HSZ.out fun k e => by rw [e]; exact hgl.1
    exact HB1.out.trans h6)
  clear hb7 HSM
  go_wp2_with fail
  go_returns
  exact ⟨rfl, HBF.out⟩
end Go.Proofs.Ytiobblmagjbhjaa.Lea
