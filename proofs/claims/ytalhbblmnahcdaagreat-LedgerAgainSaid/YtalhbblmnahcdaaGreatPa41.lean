/-
  Layer 8: what a record of one kind does.
 Layer 8: what a record of one kind does.
 Layer 8: what a record of one kind does.
  Conditions: none.
-/
import Derived.Test.YtalhbblmnahcdaaGreatPa40
namespace Go.Proofs.YtalhbblmnahcdaaGreat.Led
set_option maxRecDepth 100000
open Go.RowKit Go.Deep Go.Proofs.YtalhbblmnahcdaaGreat.Mem Go.Proofs.YtalhbblmnahcdaaGreat.Item Go.Proofs.YtalhbblmnahcdaaGreat.Rec
set_option maxHeartbeats 4000000 in
theorem follow_bad (s : St) (y : Sy) (r : Rc) (z : Lay) (base b : Nat) (w : World) (ho : Own base w b s y) (hh : Fr (fun j => turf b y j) w r.items r.nodes z) (hs : Small s) (hr : r.items.length ≤ 1000 ∧ r.nodes.length ≤ 1000) (hrt : right r = false) :
  Calls Tryz.prog 36 #[.pointer (some ⟨b, 0, none⟩), r.val z] w fun e w' => e = .returned (.int .i64 (fFollow s r).2) ∧ Step base b s y w (fFollow s r).1 w' := by
 obtain ⟨wb, hwb⟩ : ∃ v, v = w.alloc (.cells #[.int .i64 r.kind, .int .i64 r.tid.node, .int .i64 r.tid.epoch, .int .i64 r.tid.seq, .slice z.A r.items.length z.c, .slice z.B r.nodes.length z.d, .int .i64 r.node, .int .i64 r.count, .int .i64 r.num, .int .i64 r.cell, .int .i64 r.status, .int .i64 r.hop, .int .i64 r.version, .int .i64 r.value, .bool r.yes] 51) := ⟨_, rfl⟩
 have hb : Below w.heap.size w wb := by rw [hwb]; exact below_alloc _ _
 have HOwb := Lib.hid (ho.later hb)
 have HRwb : Hid (Cells wb w.heap.size 51 (r.vals z)) := Lib.hid (by rw [hwb]; exact cells_new _ _ _ _ rfl)
 have HHwb := Lib.hid (hh.later hb)
 have HBwb := Lib.hid hb
 have HSM := Lib.hid hs
 have HRS := Lib.hid hr
 have HRT := Lib.hid hrt
 clear hrt
 obtain ⟨F, hF⟩ : ∃ F, fFollow s r = F := ⟨_, rfl⟩
 have HF := Lib.hid hF.symm
 rw [hF]
 unfold Rc.val
 clear ho hh hs hr hb hF
 go_enter Tryz.func36, Tryz.ntmps36
 go_wp2_with fail
 rw [← hwb]
 clear hwb
 have hx := HRwb.out
 unfold Rc.vals at hx
 have x0 := hx.cell (j := 0) rfl
 have x1 := hx.cell (j := 1) rfl
 have x2 := hx.cell (j := 2) rfl
 have x3 := hx.cell (j := 3) rfl
 have x4 := hx.cell (j := 4) rfl
 have x5 := hx.cell (j := 5) rfl
 have x6 := hx.cell (j := 6) rfl
 have x7 := hx.cell (j := 7) rfl
 have x8 := hx.cell (j := 8) rfl
 have x9 := hx.cell (j := 9) rfl
 have x10 := hx.cell (j := 10) rfl
 have x11 := hx.cell (j := 11) rfl
 have x12 := hx.cell (j := 12) rfl
 have x13 := hx.cell (j := 13) rfl
 have x14 := hx.cell (j := 14) rfl
 clear hx
 have HP0 : Hid (Calls Tryz.prog 31 #[.agg #[.int .i64 r.kind, .int .i64 r.tid.node, .int .i64 r.tid.epoch, .int .i64 r.tid.seq, .slice z.A r.items.length z.c, .slice z.B r.nodes.length z.d, .int .i64 r.node, .int .i64 r.count, .int .i64 r.num, .int .i64 r.cell, .int .i64 r.status, .int .i64 r.hop, .int .i64 r.version, .int .i64 r.value, .bool r.yes]] wb fun e w' => e = .returned (.bool false) ∧ Below wb.heap.size wb w') := Lib.hid (by have h := right_any r z wb ⟨HHwb.out.two.1, HHwb.out.two.2.1⟩ HRS.out.1 HRS.out.2; unfold Rc.val at h; rw [HRT.out] at h; exact h)
 go_wp2_with fail
 refine HP0.out.mono ?_
 rintro e wc ⟨rfl, hI⟩
 clear x0 x1 x2 x3 x4 x5 x6 x7 x8 x9 x10 x11 x12 x13 x14
 have HOwc := Lib.hid (HOwb.out.later hI)
 have HRwc := Lib.hid (HRwb.out.later hI)
 have HHwc := Lib.hid (HHwb.out.later hI)
 have HBwc := Lib.hid (HBwb.out.trans (hI.mono HBwb.out.size))
 clear hI
 have HFX : Hid (F = (s, 1)) := Lib.hid (by rw [HF.out]; exact if_pos HRT.out)
 go_wp2_with fail
 go_returns
 exact ⟨ret_int (by rw [HFX.out]), by rw [HFX.out]; exact Step.same HOwc.out HBwc.out⟩
set_option maxHeartbeats 4000000 in
theorem follow_k12 (s : St) (y : Sy) (r : Rc) (z : Lay) (base b : Nat) (w : World) (ho : Own base w b s y) (hh : Fr (fun j => turf b y j) w r.items r.nodes z) (hs : Small s) (hr : r.items.length ≤ 1000 ∧ r.nodes.length ≤ 1000) (hkk : r.kind = 12) (hrt : right r = true) :
  Calls Tryz.prog 36 #[.pointer (some ⟨b, 0, none⟩), r.val z] w fun e w' => e = .returned (.int .i64 (fFollow s r).2) ∧ Step base b s y w (fFollow s r).1 w' := by
 obtain ⟨wb, hwb⟩ : ∃ v, v = w.alloc (.cells #[.int .i64 r.kind, .int .i64 r.tid.node, .int .i64 r.tid.epoch, .int .i64 r.tid.seq, .slice z.A r.items.length z.c, .slice z.B r.nodes.length z.d, .int .i64 r.node, .int .i64 r.count, .int .i64 r.num, .int .i64 r.cell, .int .i64 r.status, .int .i64 r.hop, .int .i64 r.version, .int .i64 r.value, .bool r.yes] 51) := ⟨_, rfl⟩
 have hb : Below w.heap.size w wb := by rw [hwb]; exact below_alloc _ _
 have HOwb := Lib.hid (ho.later hb)
 have HRwb : Hid (Cells wb w.heap.size 51 (r.vals z)) := Lib.hid (by rw [hwb]; exact cells_new _ _ _ _ rfl)
 have HHwb := Lib.hid (hh.later hb)
 have HBwb := Lib.hid hb
 have HSM := Lib.hid hs
 have HRS := Lib.hid hr
 have HRT := Lib.hid hrt
 have HK := Lib.hid hkk
 clear hrt hkk
 obtain ⟨F, hF⟩ : ∃ F, fFollow s r = F := ⟨_, rfl⟩
 have HF := Lib.hid hF.symm
 rw [hF]
 unfold Rc.val
 clear ho hh hs hr hb hF
 go_enter Tryz.func36, Tryz.ntmps36
 go_wp2_with fail
 rw [← hwb]
 clear hwb
 have hx := HRwb.out
 unfold Rc.vals at hx
 have x0 := hx.cell (j := 0) rfl
 have x1 := hx.cell (j := 1) rfl
 have x2 := hx.cell (j := 2) rfl
 have x3 := hx.cell (j := 3) rfl
 have x4 := hx.cell (j := 4) rfl
 have x5 := hx.cell (j := 5) rfl
 have x6 := hx.cell (j := 6) rfl
 have x7 := hx.cell (j := 7) rfl
 have x8 := hx.cell (j := 8) rfl
 have x9 := hx.cell (j := 9) rfl
 have x10 := hx.cell (j := 10) rfl
 have x11 := hx.cell (j := 11) rfl
 have x12 := hx.cell (j := 12) rfl
 have x13 := hx.cell (j := 13) rfl
 have x14 := hx.cell (j := 14) rfl
 clear hx
 have HP0 : Hid (Calls Tryz.prog 31 #[.agg #[.int .i64 r.kind, .int .i64 r.tid.node, .int .i64 r.tid.epoch, .int .i64 r.tid.seq, .slice z.A r.items.length z.c, .slice z.B r.nodes.length z.d, .int .i64 r.node, .int .i64 r.count, .int .i64 r.num, .int .i64 r.cell, .int .i64 r.status, .int .i64 r.hop, .int .i64 r.version, .int .i64 r.value, .bool r.yes]] wb fun e w' => e = .returned (.bool true) ∧ Below wb.heap.size wb w') := Lib.hid (by have h := right_any r z wb ⟨HHwb.out.two.1, HHwb.out.two.2.1⟩ HRS.out.1 HRS.out.2; unfold Rc.val at h; rw [HRT.out] at h; exact h)
 go_wp2_with fail
 refine HP0.out.mono ?_
 rintro e wc ⟨rfl, hI⟩
 clear x0 x1 x2 x3 x4 x5 x6 x7 x8 x9 x10 x11 x12 x13 x14
 have HOwc := Lib.hid (HOwb.out.later hI)
 have HRwc := Lib.hid (HRwb.out.later hI)
 have HHwc := Lib.hid (HHwb.out.later hI)
 have HBwc := Lib.hid (HBwb.out.trans (hI.mono HBwb.out.size))
 clear hI
 have HFX : Hid (F = (s, 0)) := Lib.hid (by rw [HF.out]; unfold fFollow; rw [if_neg (by rw [HRT.out]; decide)]; unfold byKind; rw [if_neg (by rw [HK.out]; decide)]; rw [if_neg (by rw [HK.out]; decide)]; rw [if_neg (by rw [HK.out]; decide)]; rw [if_neg (by rw [HK.out]; decide)]; rw [if_neg (by rw [HK.out]; decide)]; rw [if_neg (by rw [HK.out]; decide)]; rw [if_neg (by rw [HK.out]; decide)]; rw [if_neg (by rw [HK.out]; decide)]; rw [if_neg (by rw [HK.out]; decide)]; rw [if_neg (by rw [HK.out]; decide)]; rw [if_neg (by rw [HK.out]; decide)])
 have hx := HRwc.out
 unfold Rc.vals at hx
 have x0 := hx.cell (j := 0) rfl
 have x1 := hx.cell (j := 1) rfl
 have x2 := hx.cell (j := 2) rfl
 have x3 := hx.cell (j := 3) rfl
 have x4 := hx.cell (j := 4) rfl
 have x5 := hx.cell (j := 5) rfl
 have x6 := hx.cell (j := 6) rfl
 have x7 := hx.cell (j := 7) rfl
 have x8 := hx.cell (j := 8) rfl
 have x9 := hx.cell (j := 9) rfl
 have x10 := hx.cell (j := 10) rfl
 have x11 := hx.cell (j := 11) rfl
 have x12 := hx.cell (j := 12) rfl
 have x13 := hx.cell (j := 13) rfl
 have x14 := hx.cell (j := 14) rfl
 clear hx
 rw [HK.out] at x0
 go_wp2_with fail
 go_returns
 exact ⟨ret_int (by rw [HFX.out]), by rw [HFX.out]; exact Step.same HOwc.out HBwc.out⟩
end Go.Proofs.YtalhbblmnahcdaaGreat.Led
namespace Go.Proofs.YtalhbblmnahcdaaGreat.Led
set_option maxRecDepth 100000
open Go.RowKit Go.Deep Go.Proofs.YtalhbblmnahcdaaGreat.Mem Go.Proofs.YtalhbblmnahcdaaGreat.Item Go.Proofs.YtalhbblmnahcdaaGreat.Rec
set_option maxHeartbeats 4000000 in
theorem follow_k2 (s : St) (y : Sy) (r : Rc) (z : Lay) (base b : Nat) (w : World) (ho : Own base w b s y) (hh : Fr (fun j => turf b y j) w r.items r.nodes z) (hs : Small s) (hr : r.items.length ≤ 1000 ∧ r.nodes.length ≤ 1000) (hkk : r.kind = 2) (hrt : right r = true) :
  Calls Tryz.prog 36 #[.pointer (some ⟨b, 0, none⟩), r.val z] w fun e w' => e = .returned (.int .i64 (fFollow s r).2) ∧ Step base b s y w (fFollow s r).1 w' := by
 obtain ⟨wb, hwb⟩ : ∃ v, v = w.alloc (.cells #[.int .i64 r.kind, .int .i64 r.tid.node, .int .i64 r.tid.epoch, .int .i64 r.tid.seq, .slice z.A r.items.length z.c, .slice z.B r.nodes.length z.d, .int .i64 r.node, .int .i64 r.count, .int .i64 r.num, .int .i64 r.cell, .int .i64 r.status, .int .i64 r.hop, .int .i64 r.version, .int .i64 r.value, .bool r.yes] 51) := ⟨_, rfl⟩
 have hb : Below w.heap.size w wb := by rw [hwb]; exact below_alloc _ _
 have HOwb := Lib.hid (ho.later hb)
 have HRwb : Hid (Cells wb w.heap.size 51 (r.vals z)) := Lib.hid (by rw [hwb]; exact cells_new _ _ _ _ rfl)
 have HHwb := Lib.hid (hh.later hb)
 have HBwb := Lib.hid hb
 have HSM := Lib.hid hs
 have HRS := Lib.hid hr
 have HRT := Lib.hid hrt
 have HK := Lib.hid hkk
 clear hrt hkk
 obtain ⟨F, hF⟩ : ∃ F, fFollow s r = F := ⟨_, rfl⟩
 have HF := Lib.hid hF.symm
 rw [hF]
 unfold Rc.val
 clear ho hh hs hr hb hF
 go_enter Tryz.func36, Tryz.ntmps36
 go_wp2_with fail
 rw [← hwb]
 clear hwb
 have hx := HRwb.out
 unfold Rc.vals at hx
 have x0 := hx.cell (j := 0) rfl
 have x1 := hx.cell (j := 1) rfl
 have x2 := hx.cell (j := 2) rfl
 have x3 := hx.cell (j := 3) rfl
 have x4 := hx.cell (j := 4) rfl
 have x5 := hx.cell (j := 5) rfl
 have x6 := hx.cell (j := 6) rfl
 have x7 := hx.cell (j := 7) rfl
 have x8 := hx.cell (j := 8) rfl
 have x9 := hx.cell (j := 9) rfl
 have x10 := hx.cell (j := 10) rfl
 have x11 := hx.cell (j := 11) rfl
 have x12 := hx.cell (j := 12) rfl
 have x13 := hx.cell (j := 13) rfl
 have x14 := hx.cell (j := 14) rfl
 clear hx
 have HP0 : Hid (Calls Tryz.prog 31 #[.agg #[.int .i64 r.kind, .int .i64 r.tid.node, .int .i64 r.tid.epoch, .int .i64 r.tid.seq, .slice z.A r.items.length z.c, .slice z.B r.nodes.length z.d, .int .i64 r.node, .int .i64 r.count, .int .i64 r.num, .int .i64 r.cell, .int .i64 r.status, .int .i64 r.hop, .int .i64 r.version, .int .i64 r.value, .bool r.yes]] wb fun e w' => e = .returned (.bool true) ∧ Below wb.heap.size wb w') := Lib.hid (by have h := right_any r z wb ⟨HHwb.out.two.1, HHwb.out.two.2.1⟩ HRS.out.1 HRS.out.2; unfold Rc.val at h; rw [HRT.out] at h; exact h)
 go_wp2_with fail
 refine HP0.out.mono ?_
 rintro e wc ⟨rfl, hI⟩
 clear x0 x1 x2 x3 x4 x5 x6 x7 x8 x9 x10 x11 x12 x13 x14
 have HOwc := Lib.hid (HOwb.out.later hI)
 have HRwc := Lib.hid (HRwb.out.later hI)
 have HHwc := Lib.hid (HHwb.out.later hI)
 have HBwc := Lib.hid (HBwb.out.trans (hI.mono HBwb.out.size))
 clear hI
 have HFX : Hid (F = fBegin s r) := Lib.hid (by rw [HF.out]; unfold fFollow; rw [if_neg (by rw [HRT.out]; decide)]; unfold byKind; rw [if_neg (by rw [HK.out]; decide)]; rw [if_pos HK.out])
 have hx := HRwc.out
 unfold Rc.vals at hx
 have x0 := hx.cell (j := 0) rfl
 have x1 := hx.cell (j := 1) rfl
 have x2 := hx.cell (j := 2) rfl
 have x3 := hx.cell (j := 3) rfl
 have x4 := hx.cell (j := 4) rfl
 have x5 := hx.cell (j := 5) rfl
 have x6 := hx.cell (j := 6) rfl
 have x7 := hx.cell (j := 7) rfl
 have x8 := hx.cell (j := 8) rfl
 have x9 := hx.cell (j := 9) rfl
 have x10 := hx.cell (j := 10) rfl
 have x11 := hx.cell (j := 11) rfl
 have x12 := hx.cell (j := 12) rfl
 have x13 := hx.cell (j := 13) rfl
 have x14 := hx.cell (j := 14) rfl
 clear hx
 rw [HK.out] at x0
 have HP : Hid (Calls Tryz.prog 65 #[.pointer (some ⟨b, 0, none⟩), .agg #[.int .i64 2, .int .i64 r.tid.node, .int .i64 r.tid.epoch, .int .i64 r.tid.seq, .slice z.A r.items.length z.c, .slice z.B r.nodes.length z.d, .int .i64 r.node, .int .i64 r.count, .int .i64 r.num, .int .i64 r.cell, .int .i64 r.status, .int .i64 r.hop, .int .i64 r.version, .int .i64 r.value, .bool r.yes]] wc fun e w' => e = .returned (.int .i64 (fBegin s r).2) ∧ Step base b s y wc (fBegin s r).1 w') := Lib.hid (by have h := begin_any s y r z base b wc HOwc.out HHwc.out.two HSM.out HRS.out; unfold Rc.val at h; rw [HK.out] at h; exact h)
 go_wp2_with fail
 clear x0 x1 x2 x3 x4 x5 x6 x7 x8 x9 x10 x11 x12 x13 x14
 refine HP.out.mono ?_
 rintro e w9 ⟨rfl, hst⟩
 have HN := Lib.hid hst
 clear hst
 go_wp2_with fail
 go_returns
 exact ⟨ret_int (by rw [HFX.out]), by rw [HFX.out]; exact Step.before HBwc.out HN.out⟩
set_option maxHeartbeats 4000000 in
theorem follow_k3 (s : St) (y : Sy) (r : Rc) (z : Lay) (base b : Nat) (w : World) (ho : Own base w b s y) (hh : Fr (fun j => turf b y j) w r.items r.nodes z) (hs : Small s) (hr : r.items.length ≤ 1000 ∧ r.nodes.length ≤ 1000) (hkk : r.kind = 3) (hrt : right r = true) :
  Calls Tryz.prog 36 #[.pointer (some ⟨b, 0, none⟩), r.val z] w fun e w' => e = .returned (.int .i64 (fFollow s r).2) ∧ Step base b s y w (fFollow s r).1 w' := by
 obtain ⟨wb, hwb⟩ : ∃ v, v = w.alloc (.cells #[.int .i64 r.kind, .int .i64 r.tid.node, .int .i64 r.tid.epoch, .int .i64 r.tid.seq, .slice z.A r.items.length z.c, .slice z.B r.nodes.length z.d, .int .i64 r.node, .int .i64 r.count, .int .i64 r.num, .int .i64 r.cell, .int .i64 r.status, .int .i64 r.hop, .int .i64 r.version, .int .i64 r.value, .bool r.yes] 51) := ⟨_, rfl⟩
 have hb : Below w.heap.size w wb := by rw [hwb]; exact below_alloc _ _
 have HOwb := Lib.hid (ho.later hb)
 have HRwb : Hid (Cells wb w.heap.size 51 (r.vals z)) := Lib.hid (by rw [hwb]; exact cells_new _ _ _ _ rfl)
 have HHwb := Lib.hid (hh.later hb)
 have HBwb := Lib.hid hb
 have HSM := Lib.hid hs
 have HRS := Lib.hid hr
 have HRT := Lib.hid hrt
 have HK := Lib.hid hkk
 clear hrt hkk
 obtain ⟨F, hF⟩ : ∃ F, fFollow s r = F := ⟨_, rfl⟩
 have HF := Lib.hid hF.symm
 rw [hF]
 unfold Rc.val
 clear ho hh hs hr hb hF
 go_enter Tryz.func36, Tryz.ntmps36
 go_wp2_with fail
 rw [← hwb]
 clear hwb
 have hx := HRwb.out
 unfold Rc.vals at hx
 have x0 := hx.cell (j := 0) rfl
 have x1 := hx.cell (j := 1) rfl
 have x2 := hx.cell (j := 2) rfl
 have x3 := hx.cell (j := 3) rfl
 have x4 := hx.cell (j := 4) rfl
 have x5 := hx.cell (j := 5) rfl
 have x6 := hx.cell (j := 6) rfl
 have x7 := hx.cell (j := 7) rfl
 have x8 := hx.cell (j := 8) rfl
 have x9 := hx.cell (j := 9) rfl
 have x10 := hx.cell (j := 10) rfl
 have x11 := hx.cell (j := 11) rfl
 have x12 := hx.cell (j := 12) rfl
 have x13 := hx.cell (j := 13) rfl
 have x14 := hx.cell (j := 14) rfl
 clear hx
 have HP0 : Hid (Calls Tryz.prog 31 #[.agg #[.int .i64 r.kind, .int .i64 r.tid.node, .int .i64 r.tid.epoch, .int .i64 r.tid.seq, .slice z.A r.items.length z.c, .slice z.B r.nodes.length z.d, .int .i64 r.node, .int .i64 r.count, .int .i64 r.num, .int .i64 r.cell, .int .i64 r.status, .int .i64 r.hop, .int .i64 r.version, .int .i64 r.value, .bool r.yes]] wb fun e w' => e = .returned (.bool true) ∧ Below wb.heap.size wb w') := Lib.hid (by have h := right_any r z wb ⟨HHwb.out.two.1, HHwb.out.two.2.1⟩ HRS.out.1 HRS.out.2; unfold Rc.val at h; rw [HRT.out] at h; exact h)
 go_wp2_with fail
 refine HP0.out.mono ?_
 rintro e wc ⟨rfl, hI⟩
 clear x0 x1 x2 x3 x4 x5 x6 x7 x8 x9 x10 x11 x12 x13 x14
 have HOwc := Lib.hid (HOwb.out.later hI)
 have HRwc := Lib.hid (HRwb.out.later hI)
 have HHwc := Lib.hid (HHwb.out.later hI)
 have HBwc := Lib.hid (HBwb.out.trans (hI.mono HBwb.out.size))
 clear hI
 have HFX : Hid (F = fPlace s r) := Lib.hid (by rw [HF.out]; unfold fFollow; rw [if_neg (by rw [HRT.out]; decide)]; unfold byKind; rw [if_neg (by rw [HK.out]; decide)]; rw [if_neg (by rw [HK.out]; decide)]; rw [if_pos HK.out])
 have hx := HRwc.out
 unfold Rc.vals at hx
 have x0 := hx.cell (j := 0) rfl
 have x1 := hx.cell (j := 1) rfl
 have x2 := hx.cell (j := 2) rfl
 have x3 := hx.cell (j := 3) rfl
 have x4 := hx.cell (j := 4) rfl
 have x5 := hx.cell (j := 5) rfl
 have x6 := hx.cell (j := 6) rfl
 have x7 := hx.cell (j := 7) rfl
 have x8 := hx.cell (j := 8) rfl
 have x9 := hx.cell (j := 9) rfl
 have x10 := hx.cell (j := 10) rfl
 have x11 := hx.cell (j := 11) rfl
 have x12 := hx.cell (j := 12) rfl
 have x13 := hx.cell (j := 13) rfl
 have x14 := hx.cell (j := 14) rfl
 clear hx
 rw [HK.out] at x0
 have HP : Hid (Calls Tryz.prog 66 #[.pointer (some ⟨b, 0, none⟩), .agg #[.int .i64 3, .int .i64 r.tid.node, .int .i64 r.tid.epoch, .int .i64 r.tid.seq, .slice z.A r.items.length z.c, .slice z.B r.nodes.length z.d, .int .i64 r.node, .int .i64 r.count, .int .i64 r.num, .int .i64 r.cell, .int .i64 r.status, .int .i64 r.hop, .int .i64 r.version, .int .i64 r.value, .bool r.yes]] wc fun e w' => e = .returned (.int .i64 (fPlace s r).2) ∧ Step base b s y wc (fPlace s r).1 w') := Lib.hid (by have h := place_any s y r z base b wc HOwc.out HHwc.out.two HSM.out HRS.out; unfold Rc.val at h; rw [HK.out] at h; exact h)
 go_wp2_with fail
 clear x0 x1 x2 x3 x4 x5 x6 x7 x8 x9 x10 x11 x12 x13 x14
 refine HP.out.mono ?_
 rintro e w9 ⟨rfl, hst⟩
 have HN := Lib.hid hst
 clear hst
 go_wp2_with fail
 go_returns
 exact ⟨ret_int (by rw [HFX.out]), by rw [HFX.out]; exact Step.before HBwc.out HN.out⟩
set_option maxHeartbeats 4000000 in
theorem follow_k4 (s : St) (y : Sy) (r : Rc) (z : Lay) (base b : Nat) (w : World) (ho : Own base w b s y) (hh : Fr (fun j => turf b y j) w r.items r.nodes z) (hs : Small s) (hr : r.items.length ≤ 1000 ∧ r.nodes.length ≤ 1000) (hkk : r.kind = 4) (hrt : right r = true) :
  Calls Tryz.prog 36 #[.pointer (some ⟨b, 0, none⟩), r.val z] w fun e w' => e = .returned (.int .i64 (fFollow s r).2) ∧ Step base b s y w (fFollow s r).1 w' := by
 obtain ⟨wb, hwb⟩ : ∃ v, v = w.alloc (.cells #[.int .i64 r.kind, .int .i64 r.tid.node, .int .i64 r.tid.epoch, .int .i64 r.tid.seq, .slice z.A r.items.length z.c, .slice z.B r.nodes.length z.d, .int .i64 r.node, .int .i64 r.count, .int .i64 r.num, .int .i64 r.cell, .int .i64 r.status, .int .i64 r.hop, .int .i64 r.version, .int .i64 r.value, .bool r.yes] 51) := ⟨_, rfl⟩
 have hb : Below w.heap.size w wb := by rw [hwb]; exact below_alloc _ _
 have HOwb := Lib.hid (ho.later hb)
 have HRwb : Hid (Cells wb w.heap.size 51 (r.vals z)) := Lib.hid (by rw [hwb]; exact cells_new _ _ _ _ rfl)
 have HHwb := Lib.hid (hh.later hb)
 have HBwb := Lib.hid hb
 have HSM := Lib.hid hs
 have HRS := Lib.hid hr
 have HRT := Lib.hid hrt
 have HK := Lib.hid hkk
 clear hrt hkk
 obtain ⟨F, hF⟩ : ∃ F, fFollow s r = F := ⟨_, rfl⟩
 have HF := Lib.hid hF.symm
 rw [hF]
 unfold Rc.val
 clear ho hh hs hr hb hF
 go_enter Tryz.func36, Tryz.ntmps36
 go_wp2_with fail
 rw [← hwb]
 clear hwb
 have hx := HRwb.out
 unfold Rc.vals at hx
 have x0 := hx.cell (j := 0) rfl
 have x1 := hx.cell (j := 1) rfl
 have x2 := hx.cell (j := 2) rfl
 have x3 := hx.cell (j := 3) rfl
 have x4 := hx.cell (j := 4) rfl
 have x5 := hx.cell (j := 5) rfl
 have x6 := hx.cell (j := 6) rfl
 have x7 := hx.cell (j := 7) rfl
 have x8 := hx.cell (j := 8) rfl
 have x9 := hx.cell (j := 9) rfl
 have x10 := hx.cell (j := 10) rfl
 have x11 := hx.cell (j := 11) rfl
 have x12 := hx.cell (j := 12) rfl
 have x13 := hx.cell (j := 13) rfl
 have x14 := hx.cell (j := 14) rfl
 clear hx
 have HP0 : Hid (Calls Tryz.prog 31 #[.agg #[.int .i64 r.kind, .int .i64 r.tid.node, .int .i64 r.tid.epoch, .int .i64 r.tid.seq, .slice z.A r.items.length z.c, .slice z.B r.nodes.length z.d, .int .i64 r.node, .int .i64 r.count, .int .i64 r.num, .int .i64 r.cell, .int .i64 r.status, .int .i64 r.hop, .int .i64 r.version, .int .i64 r.value, .bool r.yes]] wb fun e w' => e = .returned (.bool true) ∧ Below wb.heap.size wb w') := Lib.hid (by have h := right_any r z wb ⟨HHwb.out.two.1, HHwb.out.two.2.1⟩ HRS.out.1 HRS.out.2; unfold Rc.val at h; rw [HRT.out] at h; exact h)
 go_wp2_with fail
 refine HP0.out.mono ?_
 rintro e wc ⟨rfl, hI⟩
 clear x0 x1 x2 x3 x4 x5 x6 x7 x8 x9 x10 x11 x12 x13 x14
 have HOwc := Lib.hid (HOwb.out.later hI)
 have HRwc := Lib.hid (HRwb.out.later hI)
 have HHwc := Lib.hid (HHwb.out.later hI)
 have HBwc := Lib.hid (HBwb.out.trans (hI.mono HBwb.out.size))
 clear hI
 have HFX : Hid (F = fPrepare s r) := Lib.hid (by rw [HF.out]; unfold fFollow; rw [if_neg (by rw [HRT.out]; decide)]; unfold byKind; rw [if_neg (by rw [HK.out]; decide)]; rw [if_neg (by rw [HK.out]; decide)]; rw [if_neg (by rw [HK.out]; decide)]; rw [if_pos HK.out])
 have hx := HRwc.out
 unfold Rc.vals at hx
 have x0 := hx.cell (j := 0) rfl
 have x1 := hx.cell (j := 1) rfl
 have x2 := hx.cell (j := 2) rfl
 have x3 := hx.cell (j := 3) rfl
 have x4 := hx.cell (j := 4) rfl
 have x5 := hx.cell (j := 5) rfl
 have x6 := hx.cell (j := 6) rfl
 have x7 := hx.cell (j := 7) rfl
 have x8 := hx.cell (j := 8) rfl
 have x9 := hx.cell (j := 9) rfl
 have x10 := hx.cell (j := 10) rfl
 have x11 := hx.cell (j := 11) rfl
 have x12 := hx.cell (j := 12) rfl
 have x13 := hx.cell (j := 13) rfl
 have x14 := hx.cell (j := 14) rfl
 clear hx
 rw [HK.out] at x0
 have HP : Hid (Calls Tryz.prog 67 #[.pointer (some ⟨b, 0, none⟩), .agg #[.int .i64 4, .int .i64 r.tid.node, .int .i64 r.tid.epoch, .int .i64 r.tid.seq, .slice z.A r.items.length z.c, .slice z.B r.nodes.length z.d, .int .i64 r.node, .int .i64 r.count, .int .i64 r.num, .int .i64 r.cell, .int .i64 r.status, .int .i64 r.hop, .int .i64 r.version, .int .i64 r.value, .bool r.yes]] wc fun e w' => e = .returned (.int .i64 (fPrepare s r).2) ∧ Step base b s y wc (fPrepare s r).1 w') := Lib.hid (by have h := prepare_any s y r z base b wc HOwc.out HHwc.out.two HSM.out HRS.out; unfold Rc.val at h; rw [HK.out] at h; exact h)
 go_wp2_with fail
 clear x0 x1 x2 x3 x4 x5 x6 x7 x8 x9 x10 x11 x12 x13 x14
 refine HP.out.mono ?_
 rintro e w9 ⟨rfl, hst⟩
 have HN := Lib.hid hst
 clear hst
 go_wp2_with fail
 go_returns
 exact ⟨ret_int (by rw [HFX.out]), by rw [HFX.out]; exact Step.before HBwc.out HN.out⟩
end Go.Proofs.YtalhbblmnahcdaaGreat.Led
namespace Go.Proofs.YtalhbblmnahcdaaGreat.Led
set_option maxRecDepth 100000
open Go.RowKit Go.Deep Go.Proofs.YtalhbblmnahcdaaGreat.Mem Go.Proofs.YtalhbblmnahcdaaGreat.Item Go.Proofs.YtalhbblmnahcdaaGreat.Rec
set_option maxHeartbeats 4000000 in
theorem follow_k6 (s : St) (y : Sy) (r : Rc) (z : Lay) (base b : Nat) (w : World) (ho : Own base w b s y) (hh : Fr (fun j => turf b y j) w r.items r.nodes z) (hs : Small s) (hr : r.items.length ≤ 1000 ∧ r.nodes.length ≤ 1000) (hkk : r.kind = 6) (hrt : right r = true) :
  Calls Tryz.prog 36 #[.pointer (some ⟨b, 0, none⟩), r.val z] w fun e w' => e = .returned (.int .i64 (fFollow s r).2) ∧ Step base b s y w (fFollow s r).1 w' := by
 obtain ⟨wb, hwb⟩ : ∃ v, v = w.alloc (.cells #[.int .i64 r.kind, .int .i64 r.tid.node, .int .i64 r.tid.epoch, .int .i64 r.tid.seq, .slice z.A r.items.length z.c, .slice z.B r.nodes.length z.d, .int .i64 r.node, .int .i64 r.count, .int .i64 r.num, .int .i64 r.cell, .int .i64 r.status, .int .i64 r.hop, .int .i64 r.version, .int .i64 r.value, .bool r.yes] 51) := ⟨_, rfl⟩
 have hb : Below w.heap.size w wb := by rw [hwb]; exact below_alloc _ _
 have HOwb := Lib.hid (ho.later hb)
 have HRwb : Hid (Cells wb w.heap.size 51 (r.vals z)) := Lib.hid (by rw [hwb]; exact cells_new _ _ _ _ rfl)
 have HHwb := Lib.hid (hh.later hb)
 have HBwb := Lib.hid hb
 have HSM := Lib.hid hs
 have HRS := Lib.hid hr
 have HRT := Lib.hid hrt
 have HK := Lib.hid hkk
 clear hrt hkk
 obtain ⟨F, hF⟩ : ∃ F, fFollow s r = F := ⟨_, rfl⟩
 have HF := Lib.hid hF.symm
 rw [hF]
 unfold Rc.val
 clear ho hh hs hr hb hF
 go_enter Tryz.func36, Tryz.ntmps36
 go_wp2_with fail
 rw [← hwb]
 clear hwb
 have hx := HRwb.out
 unfold Rc.vals at hx
 have x0 := hx.cell (j := 0) rfl
 have x1 := hx.cell (j := 1) rfl
 have x2 := hx.cell (j := 2) rfl
 have x3 := hx.cell (j := 3) rfl
 have x4 := hx.cell (j := 4) rfl
 have x5 := hx.cell (j := 5) rfl
 have x6 := hx.cell (j := 6) rfl
 have x7 := hx.cell (j := 7) rfl
 have x8 := hx.cell (j := 8) rfl
 have x9 := hx.cell (j := 9) rfl
 have x10 := hx.cell (j := 10) rfl
 have x11 := hx.cell (j := 11) rfl
 have x12 := hx.cell (j := 12) rfl
 have x13 := hx.cell (j := 13) rfl
 have x14 := hx.cell (j := 14) rfl
 clear hx
 have HP0 : Hid (Calls Tryz.prog 31 #[.agg #[.int .i64 r.kind, .int .i64 r.tid.node, .int .i64 r.tid.epoch, .int .i64 r.tid.seq, .slice z.A r.items.length z.c, .slice z.B r.nodes.length z.d, .int .i64 r.node, .int .i64 r.count, .int .i64 r.num, .int .i64 r.cell, .int .i64 r.status, .int .i64 r.hop, .int .i64 r.version, .int .i64 r.value, .bool r.yes]] wb fun e w' => e = .returned (.bool true) ∧ Below wb.heap.size wb w') := Lib.hid (by have h := right_any r z wb ⟨HHwb.out.two.1, HHwb.out.two.2.1⟩ HRS.out.1 HRS.out.2; unfold Rc.val at h; rw [HRT.out] at h; exact h)
 go_wp2_with fail
 refine HP0.out.mono ?_
 rintro e wc ⟨rfl, hI⟩
 clear x0 x1 x2 x3 x4 x5 x6 x7 x8 x9 x10 x11 x12 x13 x14
 have HOwc := Lib.hid (HOwb.out.later hI)
 have HRwc := Lib.hid (HRwb.out.later hI)
 have HHwc := Lib.hid (HHwb.out.later hI)
 have HBwc := Lib.hid (HBwb.out.trans (hI.mono HBwb.out.size))
 clear hI
 have HFX : Hid (F = fDecide s r) := Lib.hid (by rw [HF.out]; unfold fFollow; rw [if_neg (by rw [HRT.out]; decide)]; unfold byKind; rw [if_neg (by rw [HK.out]; decide)]; rw [if_neg (by rw [HK.out]; decide)]; rw [if_neg (by rw [HK.out]; decide)]; rw [if_neg (by rw [HK.out]; decide)]; rw [if_pos HK.out])
 have hx := HRwc.out
 unfold Rc.vals at hx
 have x0 := hx.cell (j := 0) rfl
 have x1 := hx.cell (j := 1) rfl
 have x2 := hx.cell (j := 2) rfl
 have x3 := hx.cell (j := 3) rfl
 have x4 := hx.cell (j := 4) rfl
 have x5 := hx.cell (j := 5) rfl
 have x6 := hx.cell (j := 6) rfl
 have x7 := hx.cell (j := 7) rfl
 have x8 := hx.cell (j := 8) rfl
 have x9 := hx.cell (j := 9) rfl
 have x10 := hx.cell (j := 10) rfl
 have x11 := hx.cell (j := 11) rfl
 have x12 := hx.cell (j := 12) rfl
 have x13 := hx.cell (j := 13) rfl
 have x14 := hx.cell (j := 14) rfl
 clear hx
 rw [HK.out] at x0
 have HP : Hid (Calls Tryz.prog 68 #[.pointer (some ⟨b, 0, none⟩), .agg #[.int .i64 6, .int .i64 r.tid.node, .int .i64 r.tid.epoch, .int .i64 r.tid.seq, .slice z.A r.items.length z.c, .slice z.B r.nodes.length z.d, .int .i64 r.node, .int .i64 r.count, .int .i64 r.num, .int .i64 r.cell, .int .i64 r.status, .int .i64 r.hop, .int .i64 r.version, .int .i64 r.value, .bool r.yes]] wc fun e w' => e = .returned (.int .i64 (fDecide s r).2) ∧ Step base b s y wc (fDecide s r).1 w') := Lib.hid (by have h := decide_any s y r z base b wc HOwc.out HHwc.out HSM.out HRS.out; unfold Rc.val at h; rw [HK.out] at h; exact h)
 go_wp2_with fail
 clear x0 x1 x2 x3 x4 x5 x6 x7 x8 x9 x10 x11 x12 x13 x14
 refine HP.out.mono ?_
 rintro e w9 ⟨rfl, hst⟩
 have HN := Lib.hid hst
 clear hst
 go_wp2_with fail
 go_returns
 exact ⟨ret_int (by rw [HFX.out]), by rw [HFX.out]; exact Step.before HBwc.out HN.out⟩
set_option maxHeartbeats 4000000 in
theorem follow_k11 (s : St) (y : Sy) (r : Rc) (z : Lay) (base b : Nat) (w : World) (ho : Own base w b s y) (hh : Fr (fun j => turf b y j) w r.items r.nodes z) (hs : Small s) (hr : r.items.length ≤ 1000 ∧ r.nodes.length ≤ 1000) (hkk : r.kind = 11) (hrt : right r = true) :
  Calls Tryz.prog 36 #[.pointer (some ⟨b, 0, none⟩), r.val z] w fun e w' => e = .returned (.int .i64 (fFollow s r).2) ∧ Step base b s y w (fFollow s r).1 w' := by
 obtain ⟨wb, hwb⟩ : ∃ v, v = w.alloc (.cells #[.int .i64 r.kind, .int .i64 r.tid.node, .int .i64 r.tid.epoch, .int .i64 r.tid.seq, .slice z.A r.items.length z.c, .slice z.B r.nodes.length z.d, .int .i64 r.node, .int .i64 r.count, .int .i64 r.num, .int .i64 r.cell, .int .i64 r.status, .int .i64 r.hop, .int .i64 r.version, .int .i64 r.value, .bool r.yes] 51) := ⟨_, rfl⟩
 have hb : Below w.heap.size w wb := by rw [hwb]; exact below_alloc _ _
 have HOwb := Lib.hid (ho.later hb)
 have HRwb : Hid (Cells wb w.heap.size 51 (r.vals z)) := Lib.hid (by rw [hwb]; exact cells_new _ _ _ _ rfl)
 have HHwb := Lib.hid (hh.later hb)
 have HBwb := Lib.hid hb
 have HSM := Lib.hid hs
 have HRS := Lib.hid hr
 have HRT := Lib.hid hrt
 have HK := Lib.hid hkk
 clear hrt hkk
 obtain ⟨F, hF⟩ : ∃ F, fFollow s r = F := ⟨_, rfl⟩
 have HF := Lib.hid hF.symm
 rw [hF]
 unfold Rc.val
 clear ho hh hs hr hb hF
 go_enter Tryz.func36, Tryz.ntmps36
 go_wp2_with fail
 rw [← hwb]
 clear hwb
 have hx := HRwb.out
 unfold Rc.vals at hx
 have x0 := hx.cell (j := 0) rfl
 have x1 := hx.cell (j := 1) rfl
 have x2 := hx.cell (j := 2) rfl
 have x3 := hx.cell (j := 3) rfl
 have x4 := hx.cell (j := 4) rfl
 have x5 := hx.cell (j := 5) rfl
 have x6 := hx.cell (j := 6) rfl
 have x7 := hx.cell (j := 7) rfl
 have x8 := hx.cell (j := 8) rfl
 have x9 := hx.cell (j := 9) rfl
 have x10 := hx.cell (j := 10) rfl
 have x11 := hx.cell (j := 11) rfl
 have x12 := hx.cell (j := 12) rfl
 have x13 := hx.cell (j := 13) rfl
 have x14 := hx.cell (j := 14) rfl
 clear hx
 have HP0 : Hid (Calls Tryz.prog 31 #[.agg #[.int .i64 r.kind, .int .i64 r.tid.node, .int .i64 r.tid.epoch, .int .i64 r.tid.seq, .slice z.A r.items.length z.c, .slice z.B r.nodes.length z.d, .int .i64 r.node, .int .i64 r.count, .int .i64 r.num, .int .i64 r.cell, .int .i64 r.status, .int .i64 r.hop, .int .i64 r.version, .int .i64 r.value, .bool r.yes]] wb fun e w' => e = .returned (.bool true) ∧ Below wb.heap.size wb w') := Lib.hid (by have h := right_any r z wb ⟨HHwb.out.two.1, HHwb.out.two.2.1⟩ HRS.out.1 HRS.out.2; unfold Rc.val at h; rw [HRT.out] at h; exact h)
 go_wp2_with fail
 refine HP0.out.mono ?_
 rintro e wc ⟨rfl, hI⟩
 clear x0 x1 x2 x3 x4 x5 x6 x7 x8 x9 x10 x11 x12 x13 x14
 have HOwc := Lib.hid (HOwb.out.later hI)
 have HRwc := Lib.hid (HRwb.out.later hI)
 have HHwc := Lib.hid (HHwb.out.later hI)
 have HBwc := Lib.hid (HBwb.out.trans (hI.mono HBwb.out.size))
 clear hI
 have HFX : Hid (F = fPast s r) := Lib.hid (by rw [HF.out]; unfold fFollow; rw [if_neg (by rw [HRT.out]; decide)]; unfold byKind; rw [if_neg (by rw [HK.out]; decide)]; rw [if_neg (by rw [HK.out]; decide)]; rw [if_neg (by rw [HK.out]; decide)]; rw [if_neg (by rw [HK.out]; decide)]; rw [if_neg (by rw [HK.out]; decide)]; rw [if_pos HK.out])
 have hx := HRwc.out
 unfold Rc.vals at hx
 have x0 := hx.cell (j := 0) rfl
 have x1 := hx.cell (j := 1) rfl
 have x2 := hx.cell (j := 2) rfl
 have x3 := hx.cell (j := 3) rfl
 have x4 := hx.cell (j := 4) rfl
 have x5 := hx.cell (j := 5) rfl
 have x6 := hx.cell (j := 6) rfl
 have x7 := hx.cell (j := 7) rfl
 have x8 := hx.cell (j := 8) rfl
 have x9 := hx.cell (j := 9) rfl
 have x10 := hx.cell (j := 10) rfl
 have x11 := hx.cell (j := 11) rfl
 have x12 := hx.cell (j := 12) rfl
 have x13 := hx.cell (j := 13) rfl
 have x14 := hx.cell (j := 14) rfl
 clear hx
 rw [HK.out] at x0
 have HP : Hid (Calls Tryz.prog 69 #[.pointer (some ⟨b, 0, none⟩), .agg #[.int .i64 11, .int .i64 r.tid.node, .int .i64 r.tid.epoch, .int .i64 r.tid.seq, .slice z.A r.items.length z.c, .slice z.B r.nodes.length z.d, .int .i64 r.node, .int .i64 r.count, .int .i64 r.num, .int .i64 r.cell, .int .i64 r.status, .int .i64 r.hop, .int .i64 r.version, .int .i64 r.value, .bool r.yes]] wc fun e w' => e = .returned (.int .i64 (fPast s r).2) ∧ Step base b s y wc (fPast s r).1 w') := Lib.hid (by have h := past_any s y r z base b wc HOwc.out HHwc.out.two HSM.out HRS.out; unfold Rc.val at h; rw [HK.out] at h; exact h)
 go_wp2_with fail
 clear x0 x1 x2 x3 x4 x5 x6 x7 x8 x9 x10 x11 x12 x13 x14
 refine HP.out.mono ?_
 rintro e w9 ⟨rfl, hst⟩
 have HN := Lib.hid hst
 clear hst
 go_wp2_with fail
 go_returns
 exact ⟨ret_int (by rw [HFX.out]), by rw [HFX.out]; exact Step.before HBwc.out HN.out⟩
set_option maxHeartbeats 4000000 in
theorem follow_k5 (s : St) (y : Sy) (r : Rc) (z : Lay) (base b : Nat) (w : World) (ho : Own base w b s y) (hh : Fr (fun j => turf b y j) w r.items r.nodes z) (hs : Small s) (hr : r.items.length ≤ 1000 ∧ r.nodes.length ≤ 1000) (hkk : r.kind = 5) (hrt : right r = true) :
  Calls Tryz.prog 36 #[.pointer (some ⟨b, 0, none⟩), r.val z] w fun e w' => e = .returned (.int .i64 (fFollow s r).2) ∧ Step base b s y w (fFollow s r).1 w' := by
 obtain ⟨wb, hwb⟩ : ∃ v, v = w.alloc (.cells #[.int .i64 r.kind, .int .i64 r.tid.node, .int .i64 r.tid.epoch, .int .i64 r.tid.seq, .slice z.A r.items.length z.c, .slice z.B r.nodes.length z.d, .int .i64 r.node, .int .i64 r.count, .int .i64 r.num, .int .i64 r.cell, .int .i64 r.status, .int .i64 r.hop, .int .i64 r.version, .int .i64 r.value, .bool r.yes] 51) := ⟨_, rfl⟩
 have hb : Below w.heap.size w wb := by rw [hwb]; exact below_alloc _ _
 have HOwb := Lib.hid (ho.later hb)
 have HRwb : Hid (Cells wb w.heap.size 51 (r.vals z)) := Lib.hid (by rw [hwb]; exact cells_new _ _ _ _ rfl)
 have HHwb := Lib.hid (hh.later hb)
 have HBwb := Lib.hid hb
 have HSM := Lib.hid hs
 have HRS := Lib.hid hr
 have HRT := Lib.hid hrt
 have HK := Lib.hid hkk
 clear hrt hkk
 obtain ⟨F, hF⟩ : ∃ F, fFollow s r = F := ⟨_, rfl⟩
 have HF := Lib.hid hF.symm
 rw [hF]
 unfold Rc.val
 clear ho hh hs hr hb hF
 go_enter Tryz.func36, Tryz.ntmps36
 go_wp2_with fail
 rw [← hwb]
 clear hwb
 have hx := HRwb.out
 unfold Rc.vals at hx
 have x0 := hx.cell (j := 0) rfl
 have x1 := hx.cell (j := 1) rfl
 have x2 := hx.cell (j := 2) rfl
 have x3 := hx.cell (j := 3) rfl
 have x4 := hx.cell (j := 4) rfl
 have x5 := hx.cell (j := 5) rfl
 have x6 := hx.cell (j := 6) rfl
 have x7 := hx.cell (j := 7) rfl
 have x8 := hx.cell (j := 8) rfl
 have x9 := hx.cell (j := 9) rfl
 have x10 := hx.cell (j := 10) rfl
 have x11 := hx.cell (j := 11) rfl
 have x12 := hx.cell (j := 12) rfl
 have x13 := hx.cell (j := 13) rfl
 have x14 := hx.cell (j := 14) rfl
 clear hx
 have HP0 : Hid (Calls Tryz.prog 31 #[.agg #[.int .i64 r.kind, .int .i64 r.tid.node, .int .i64 r.tid.epoch, .int .i64 r.tid.seq, .slice z.A r.items.length z.c, .slice z.B r.nodes.length z.d, .int .i64 r.node, .int .i64 r.count, .int .i64 r.num, .int .i64 r.cell, .int .i64 r.status, .int .i64 r.hop, .int .i64 r.version, .int .i64 r.value, .bool r.yes]] wb fun e w' => e = .returned (.bool true) ∧ Below wb.heap.size wb w') := Lib.hid (by have h := right_any r z wb ⟨HHwb.out.two.1, HHwb.out.two.2.1⟩ HRS.out.1 HRS.out.2; unfold Rc.val at h; rw [HRT.out] at h; exact h)
 go_wp2_with fail
 refine HP0.out.mono ?_
 rintro e wc ⟨rfl, hI⟩
 clear x0 x1 x2 x3 x4 x5 x6 x7 x8 x9 x10 x11 x12 x13 x14
 have HOwc := Lib.hid (HOwb.out.later hI)
 have HRwc := Lib.hid (HRwb.out.later hI)
 have HHwc := Lib.hid (HHwb.out.later hI)
 have HBwc := Lib.hid (HBwb.out.trans (hI.mono HBwb.out.size))
 clear hI
 have HFX : Hid (F = fCommit s r) := Lib.hid (by rw [HF.out]; unfold fFollow; rw [if_neg (by rw [HRT.out]; decide)]; unfold byKind; rw [if_neg (by rw [HK.out]; decide)]; rw [if_neg (by rw [HK.out]; decide)]; rw [if_neg (by rw [HK.out]; decide)]; rw [if_neg (by rw [HK.out]; decide)]; rw [if_neg (by rw [HK.out]; decide)]; rw [if_neg (by rw [HK.out]; decide)]; rw [if_pos HK.out])
 have hx := HRwc.out
 unfold Rc.vals at hx
 have x0 := hx.cell (j := 0) rfl
 have x1 := hx.cell (j := 1) rfl
 have x2 := hx.cell (j := 2) rfl
 have x3 := hx.cell (j := 3) rfl
 have x4 := hx.cell (j := 4) rfl
 have x5 := hx.cell (j := 5) rfl
 have x6 := hx.cell (j := 6) rfl
 have x7 := hx.cell (j := 7) rfl
 have x8 := hx.cell (j := 8) rfl
 have x9 := hx.cell (j := 9) rfl
 have x10 := hx.cell (j := 10) rfl
 have x11 := hx.cell (j := 11) rfl
 have x12 := hx.cell (j := 12) rfl
 have x13 := hx.cell (j := 13) rfl
 have x14 := hx.cell (j := 14) rfl
 clear hx
 rw [HK.out] at x0
 have HP : Hid (Calls Tryz.prog 70 #[.pointer (some ⟨b, 0, none⟩), .agg #[.int .i64 5, .int .i64 r.tid.node, .int .i64 r.tid.epoch, .int .i64 r.tid.seq, .slice z.A r.items.length z.c, .slice z.B r.nodes.length z.d, .int .i64 r.node, .int .i64 r.count, .int .i64 r.num, .int .i64 r.cell, .int .i64 r.status, .int .i64 r.hop, .int .i64 r.version, .int .i64 r.value, .bool r.yes]] wc fun e w' => e = .returned (.int .i64 (fCommit s r).2) ∧ Step base b s y wc (fCommit s r).1 w') := Lib.hid (by have h := commit_any s y r z base b wc HOwc.out HHwc.out.two HSM.out HRS.out; unfold Rc.val at h; rw [HK.out] at h; exact h)
 go_wp2_with fail
 clear x0 x1 x2 x3 x4 x5 x6 x7 x8 x9 x10 x11 x12 x13 x14
 refine HP.out.mono ?_
 rintro e w9 ⟨rfl, hst⟩
 have HN := Lib.hid hst
 clear hst
 go_wp2_with fail
 go_returns
 exact ⟨ret_int (by rw [HFX.out]), by rw [HFX.out]; exact Step.before HBwc.out HN.out⟩
end Go.Proofs.YtalhbblmnahcdaaGreat.Led
