/- Part 31 of the proof. Conditions: none. -/
import Derived.Test.YtdkchpiinelmiaaGreatZ30
namespace Go.Proofs.YtdkchpiinelmiaaGreat.Led
set_option maxRecDepth 100000
open Go.RowKit Go.Deep Mem fN Rec
set_option maxHeartbeats 4000000 in
theorem AG (s : St) (y : Sy) (r : Rc) (z : Lay) (base b : Nat) (w : World) (ho : Own base w b s y) (hh : Fr (fun j => iw b y j) w r.items r.nodes z) (hs : Small s) (hr : r.items.length <= 1000 /\ r.nodes.length <= 1000) (hrt : right r = false) :
  Calls Tryz.prog 30 #[(au b), r.val z] w fun e w' => e = .returned (iv (aC s r).2) /\ Step base b s y w (aC s r).1 w' := by
 obtain ⟨wb, hwb⟩ := aj (w.alloc (.cells #[iv r.kind, iv r.tid.node, iv r.tid.epoch, iv r.tid.seq, .slice z.A r.items.length z.c, .slice z.B r.nodes.length z.d, iv r.node, iv r.count, iv r.num, iv r.cell, iv r.status, iv r.hop, iv r.version, iv r.value, .bool r.yes] 51)); have hb : Below w.heap.size w wb := by rw [hwb]; exact av _ _
 have bG := ak (ho.later hb); have bh : Hid (Cells wb w.heap.size 51 (r.vals z)) := ak (by rw [hwb]; exact aB _ _ _ _ rfl); have bI := ak (hh.later hb); have bH := ak hb; have dU := ak hs; have dP := ak hr; have iG := ak hrt; clear hrt; obtain ⟨F, hF⟩ := ah (aC s r); have HF := ak hF.symm; rw [hF]; unfold Rc.val; clear ho hh hs hr hb hF
 go_enter Tryz.func30, Tryz.ntmps30
 go_wp2_with fail
 rw [<- hwb]; clear hwb; have hx := bh.o; unfold Rc.vals at hx; obtain ⟨x0, x1, x2, x3, x4, x5, x6, x7, x8, x9, x10, eW, eV, eU, dZ⟩ := hx.iZ; clear hx; have kW : Hid (Calls Tryz.prog 25 #[.agg (r.va z)] wb fun e w' => e = .returned (.bool false) /\ Below wb.heap.size wb w') := ak (by have h := cU r z wb ⟨bI.o.two.1, bI.o.two.2.1⟩ dP.o.1 dP.o.2; unfold Rc.val at h; rw [iG.o] at h; exact h)
 go_wp2_with fail
 refine kW.o.mono ?_; rintro e wc ⟨rfl, hI⟩; clear x0 x1 x2 x3 x4 x5 x6 x7 x8 x9 x10 eW eV eU dZ; have aR := ak (bG.o.later hI); have bO := ak (bh.o.later hI); have cB := ak (bI.o.later hI); have bB := ak (bH.o.trans (hI.mono bH.o.size)); clear hI; have bf : Hid (F = (s, 1)) := ak (by rw [HF.o]; exact if_pos iG.o)
 go_wp2_with fail
 go_returns
 exact ⟨aL (by rw [bf.o]), by rw [bf.o]; exact Step.same aR.o bB.o⟩
set_option maxHeartbeats 4000000 in
theorem AA (s : St) (y : Sy) (r : Rc) (z : Lay) (base b : Nat) (w : World) (ho : Own base w b s y) (hh : Fr (fun j => iw b y j) w r.items r.nodes z) (hs : Small s) (hr : r.items.length <= 1000 /\ r.nodes.length <= 1000) (hkk : r.kind = 12) (hrt : right r = true) :
  Calls Tryz.prog 30 #[(au b), r.val z] w fun e w' => e = .returned (iv (aC s r).2) /\ Step base b s y w (aC s r).1 w' := by
 obtain ⟨wb, hwb⟩ := aj (w.alloc (.cells #[iv r.kind, iv r.tid.node, iv r.tid.epoch, iv r.tid.seq, .slice z.A r.items.length z.c, .slice z.B r.nodes.length z.d, iv r.node, iv r.count, iv r.num, iv r.cell, iv r.status, iv r.hop, iv r.version, iv r.value, .bool r.yes] 51)); have hb : Below w.heap.size w wb := by rw [hwb]; exact av _ _
 have bG := ak (ho.later hb); have bh : Hid (Cells wb w.heap.size 51 (r.vals z)) := ak (by rw [hwb]; exact aB _ _ _ _ rfl); have bI := ak (hh.later hb); have bH := ak hb; have dU := ak hs; have dP := ak hr; have iG := ak hrt; have HK := ak hkk; clear hrt hkk; obtain ⟨F, hF⟩ := ah (aC s r); have HF := ak hF.symm; rw [hF]; unfold Rc.val; clear ho hh hs hr hb hF
 go_enter Tryz.func30, Tryz.ntmps30
 go_wp2_with fail
 rw [<- hwb]; clear hwb; have hx := bh.o; unfold Rc.vals at hx; obtain ⟨x0, x1, x2, x3, x4, x5, x6, x7, x8, x9, x10, eW, eV, eU, dZ⟩ := hx.iZ; clear hx; have kW : Hid (Calls Tryz.prog 25 #[.agg (r.va z)] wb fun e w' => e = .returned (.bool true) /\ Below wb.heap.size wb w') := ak (by have h := cU r z wb ⟨bI.o.two.1, bI.o.two.2.1⟩ dP.o.1 dP.o.2; unfold Rc.val at h; rw [iG.o] at h; exact h)
 go_wp2_with fail
 refine kW.o.mono ?_; rintro e wc ⟨rfl, hI⟩; clear x0 x1 x2 x3 x4 x5 x6 x7 x8 x9 x10 eW eV eU dZ; have aR := ak (bG.o.later hI); have bO := ak (bh.o.later hI); have cB := ak (bI.o.later hI); have bB := ak (bH.o.trans (hI.mono bH.o.size)); clear hI; have bf : Hid (F = (s, 0)) := ak (by rw [HF.o]; unfold aC; rw [if_neg (by rw [iG.o]; decide)]; unfold aV; rw [if_neg (by rw [HK.o]; decide)]; rw [if_neg (by rw [HK.o]; decide)]; rw [if_neg (by rw [HK.o]; decide)]; rw [if_neg (by rw [HK.o]; decide)]; rw [if_neg (by rw [HK.o]; decide)]; rw [if_neg (by rw [HK.o]; decide)]; rw [if_neg (by rw [HK.o]; decide)]; rw [if_neg (by rw [HK.o]; decide)]; rw [if_neg (by rw [HK.o]; decide)]; rw [if_neg (by rw [HK.o]; decide)]; rw [if_neg (by rw [HK.o]; decide)]); have hx := bO.o; unfold Rc.vals at hx; obtain ⟨x0, x1, x2, x3, x4, x5, x6, x7, x8, x9, x10, eW, eV, eU, dZ⟩ := hx.iZ; clear hx; rw [HK.o] at x0
 go_wp2_with fail
 go_returns
 exact ⟨aL (by rw [bf.o]), by rw [bf.o]; exact Step.same aR.o bB.o⟩
set_option maxHeartbeats 4000000 in
theorem E3 (s : St) (y : Sy) (r : Rc) (z : Lay) (base b : Nat) (w : World) (ho : Own base w b s y) (hh : Fr (fun j => iw b y j) w r.items r.nodes z) (hs : Small s) (hr : r.items.length <= 1000 /\ r.nodes.length <= 1000) (hkk : r.kind = 2) (hrt : right r = true) :
  Calls Tryz.prog 30 #[(au b), r.val z] w fun e w' => e = .returned (iv (aC s r).2) /\ Step base b s y w (aC s r).1 w' := by
 obtain ⟨wb, hwb⟩ := aj (w.alloc (.cells #[iv r.kind, iv r.tid.node, iv r.tid.epoch, iv r.tid.seq, .slice z.A r.items.length z.c, .slice z.B r.nodes.length z.d, iv r.node, iv r.count, iv r.num, iv r.cell, iv r.status, iv r.hop, iv r.version, iv r.value, .bool r.yes] 51)); have hb : Below w.heap.size w wb := by rw [hwb]; exact av _ _
 have bG := ak (ho.later hb); have bh : Hid (Cells wb w.heap.size 51 (r.vals z)) := ak (by rw [hwb]; exact aB _ _ _ _ rfl); have bI := ak (hh.later hb); have bH := ak hb; have dU := ak hs; have dP := ak hr; have iG := ak hrt; have HK := ak hkk; clear hrt hkk; obtain ⟨F, hF⟩ := ah (aC s r); have HF := ak hF.symm; rw [hF]; unfold Rc.val; clear ho hh hs hr hb hF
 go_enter Tryz.func30, Tryz.ntmps30
 go_wp2_with fail
 rw [<- hwb]; clear hwb; have hx := bh.o; unfold Rc.vals at hx; obtain ⟨x0, x1, x2, x3, x4, x5, x6, x7, x8, x9, x10, eW, eV, eU, dZ⟩ := hx.iZ; clear hx; have kW : Hid (Calls Tryz.prog 25 #[.agg (r.va z)] wb fun e w' => e = .returned (.bool true) /\ Below wb.heap.size wb w') := ak (by have h := cU r z wb ⟨bI.o.two.1, bI.o.two.2.1⟩ dP.o.1 dP.o.2; unfold Rc.val at h; rw [iG.o] at h; exact h)
 go_wp2_with fail
 refine kW.o.mono ?_; rintro e wc ⟨rfl, hI⟩; clear x0 x1 x2 x3 x4 x5 x6 x7 x8 x9 x10 eW eV eU dZ; have aR := ak (bG.o.later hI); have bO := ak (bh.o.later hI); have cB := ak (bI.o.later hI); have bB := ak (bH.o.trans (hI.mono bH.o.size)); clear hI; have bf : Hid (F = gj s r) := ak (by rw [HF.o]; unfold aC; rw [if_neg (by rw [iG.o]; decide)]; unfold aV; rw [if_neg (by rw [HK.o]; decide)]; rw [if_pos HK.o]); have hx := bO.o; unfold Rc.vals at hx; obtain ⟨x0, x1, x2, x3, x4, x5, x6, x7, x8, x9, x10, eW, eV, eU, dZ⟩ := hx.iZ; clear hx; rw [HK.o] at x0; have HP : Hid (Calls Tryz.prog 56 #[(au b), .agg #[iv 2, iv r.tid.node, iv r.tid.epoch, iv r.tid.seq, .slice z.A r.items.length z.c, .slice z.B r.nodes.length z.d, iv r.node, iv r.count, iv r.num, iv r.cell, iv r.status, iv r.hop, iv r.version, iv r.value, .bool r.yes]] wc fun e w' => e = .returned (iv (gj s r).2) /\ Step base b s y wc (gj s r).1 w') := ak (by have h := Fh s y r z base b wc aR.o cB.o.two dU.o dP.o; unfold Rc.val at h; rw [HK.o] at h; exact h)
 go_wp2_with fail
 clear x0 x1 x2 x3 x4 x5 x6 x7 x8 x9 x10 eW eV eU dZ; refine HP.o.mono ?_; rintro e w9 ⟨rfl, hst⟩; have HN := ak hst; clear hst
 go_wp2_with fail
 go_returns
 exact ⟨aL (by rw [bf.o]), by rw [bf.o]; exact Step.before bB.o HN.o⟩
set_option maxHeartbeats 4000000 in
theorem E2 (s : St) (y : Sy) (r : Rc) (z : Lay) (base b : Nat) (w : World) (ho : Own base w b s y) (hh : Fr (fun j => iw b y j) w r.items r.nodes z) (hs : Small s) (hr : r.items.length <= 1000 /\ r.nodes.length <= 1000) (hkk : r.kind = 3) (hrt : right r = true) :
  Calls Tryz.prog 30 #[(au b), r.val z] w fun e w' => e = .returned (iv (aC s r).2) /\ Step base b s y w (aC s r).1 w' := by
 obtain ⟨wb, hwb⟩ := aj (w.alloc (.cells #[iv r.kind, iv r.tid.node, iv r.tid.epoch, iv r.tid.seq, .slice z.A r.items.length z.c, .slice z.B r.nodes.length z.d, iv r.node, iv r.count, iv r.num, iv r.cell, iv r.status, iv r.hop, iv r.version, iv r.value, .bool r.yes] 51)); have hb : Below w.heap.size w wb := by rw [hwb]; exact av _ _
 have bG := ak (ho.later hb); have bh : Hid (Cells wb w.heap.size 51 (r.vals z)) := ak (by rw [hwb]; exact aB _ _ _ _ rfl); have bI := ak (hh.later hb); have bH := ak hb; have dU := ak hs; have dP := ak hr; have iG := ak hrt; have HK := ak hkk; clear hrt hkk; obtain ⟨F, hF⟩ := ah (aC s r); have HF := ak hF.symm; rw [hF]; unfold Rc.val; clear ho hh hs hr hb hF
 go_enter Tryz.func30, Tryz.ntmps30
 go_wp2_with fail
 rw [<- hwb]; clear hwb; have hx := bh.o; unfold Rc.vals at hx; obtain ⟨x0, x1, x2, x3, x4, x5, x6, x7, x8, x9, x10, eW, eV, eU, dZ⟩ := hx.iZ; clear hx; have kW : Hid (Calls Tryz.prog 25 #[.agg (r.va z)] wb fun e w' => e = .returned (.bool true) /\ Below wb.heap.size wb w') := ak (by have h := cU r z wb ⟨bI.o.two.1, bI.o.two.2.1⟩ dP.o.1 dP.o.2; unfold Rc.val at h; rw [iG.o] at h; exact h)
 go_wp2_with fail
 refine kW.o.mono ?_; rintro e wc ⟨rfl, hI⟩; clear x0 x1 x2 x3 x4 x5 x6 x7 x8 x9 x10 eW eV eU dZ; have aR := ak (bG.o.later hI); have bO := ak (bh.o.later hI); have cB := ak (bI.o.later hI); have bB := ak (bH.o.trans (hI.mono bH.o.size)); clear hI; have bf : Hid (F = eB s r) := ak (by rw [HF.o]; unfold aC; rw [if_neg (by rw [iG.o]; decide)]; unfold aV; rw [if_neg (by rw [HK.o]; decide)]; rw [if_neg (by rw [HK.o]; decide)]; rw [if_pos HK.o]); have hx := bO.o; unfold Rc.vals at hx; obtain ⟨x0, x1, x2, x3, x4, x5, x6, x7, x8, x9, x10, eW, eV, eU, dZ⟩ := hx.iZ; clear hx; rw [HK.o] at x0; have HP : Hid (Calls Tryz.prog 57 #[(au b), .agg #[iv 3, iv r.tid.node, iv r.tid.epoch, iv r.tid.seq, .slice z.A r.items.length z.c, .slice z.B r.nodes.length z.d, iv r.node, iv r.count, iv r.num, iv r.cell, iv r.status, iv r.hop, iv r.version, iv r.value, .bool r.yes]] wc fun e w' => e = .returned (iv (eB s r).2) /\ Step base b s y wc (eB s r).1 w') := ak (by have h := El s y r z base b wc aR.o cB.o.two dU.o dP.o; unfold Rc.val at h; rw [HK.o] at h; exact h)
 go_wp2_with fail
 clear x0 x1 x2 x3 x4 x5 x6 x7 x8 x9 x10 eW eV eU dZ; refine HP.o.mono ?_; rintro e w9 ⟨rfl, hst⟩; have HN := ak hst; clear hst
 go_wp2_with fail
 go_returns
 exact ⟨aL (by rw [bf.o]), by rw [bf.o]; exact Step.before bB.o HN.o⟩
set_option maxHeartbeats 4000000 in
theorem E1 (s : St) (y : Sy) (r : Rc) (z : Lay) (base b : Nat) (w : World) (ho : Own base w b s y) (hh : Fr (fun j => iw b y j) w r.items r.nodes z) (hs : Small s) (hr : r.items.length <= 1000 /\ r.nodes.length <= 1000) (hkk : r.kind = 4) (hrt : right r = true) :
  Calls Tryz.prog 30 #[(au b), r.val z] w fun e w' => e = .returned (iv (aC s r).2) /\ Step base b s y w (aC s r).1 w' := by
 obtain ⟨wb, hwb⟩ := aj (w.alloc (.cells #[iv r.kind, iv r.tid.node, iv r.tid.epoch, iv r.tid.seq, .slice z.A r.items.length z.c, .slice z.B r.nodes.length z.d, iv r.node, iv r.count, iv r.num, iv r.cell, iv r.status, iv r.hop, iv r.version, iv r.value, .bool r.yes] 51)); have hb : Below w.heap.size w wb := by rw [hwb]; exact av _ _
 have bG := ak (ho.later hb); have bh : Hid (Cells wb w.heap.size 51 (r.vals z)) := ak (by rw [hwb]; exact aB _ _ _ _ rfl); have bI := ak (hh.later hb); have bH := ak hb; have dU := ak hs; have dP := ak hr; have iG := ak hrt; have HK := ak hkk; clear hrt hkk; obtain ⟨F, hF⟩ := ah (aC s r); have HF := ak hF.symm; rw [hF]; unfold Rc.val; clear ho hh hs hr hb hF
 go_enter Tryz.func30, Tryz.ntmps30
 go_wp2_with fail
 rw [<- hwb]; clear hwb; have hx := bh.o; unfold Rc.vals at hx; obtain ⟨x0, x1, x2, x3, x4, x5, x6, x7, x8, x9, x10, eW, eV, eU, dZ⟩ := hx.iZ; clear hx; have kW : Hid (Calls Tryz.prog 25 #[.agg (r.va z)] wb fun e w' => e = .returned (.bool true) /\ Below wb.heap.size wb w') := ak (by have h := cU r z wb ⟨bI.o.two.1, bI.o.two.2.1⟩ dP.o.1 dP.o.2; unfold Rc.val at h; rw [iG.o] at h; exact h)
 go_wp2_with fail
 refine kW.o.mono ?_; rintro e wc ⟨rfl, hI⟩; clear x0 x1 x2 x3 x4 x5 x6 x7 x8 x9 x10 eW eV eU dZ; have aR := ak (bG.o.later hI); have bO := ak (bh.o.later hI); have cB := ak (bI.o.later hI); have bB := ak (bH.o.trans (hI.mono bH.o.size)); clear hI; have bf : Hid (F = bq s r) := ak (by rw [HF.o]; unfold aC; rw [if_neg (by rw [iG.o]; decide)]; unfold aV; rw [if_neg (by rw [HK.o]; decide)]; rw [if_neg (by rw [HK.o]; decide)]; rw [if_neg (by rw [HK.o]; decide)]; rw [if_pos HK.o]); have hx := bO.o; unfold Rc.vals at hx; obtain ⟨x0, x1, x2, x3, x4, x5, x6, x7, x8, x9, x10, eW, eV, eU, dZ⟩ := hx.iZ; clear hx; rw [HK.o] at x0; have HP : Hid (Calls Tryz.prog 58 #[(au b), .agg #[iv 4, iv r.tid.node, iv r.tid.epoch, iv r.tid.seq, .slice z.A r.items.length z.c, .slice z.B r.nodes.length z.d, iv r.node, iv r.count, iv r.num, iv r.cell, iv r.status, iv r.hop, iv r.version, iv r.value, .bool r.yes]] wc fun e w' => e = .returned (iv (bq s r).2) /\ Step base b s y wc (bq s r).1 w') := ak (by have h := yF s y r z base b wc aR.o cB.o.two dU.o dP.o; unfold Rc.val at h; rw [HK.o] at h; exact h)
 go_wp2_with fail
 clear x0 x1 x2 x3 x4 x5 x6 x7 x8 x9 x10 eW eV eU dZ; refine HP.o.mono ?_; rintro e w9 ⟨rfl, hst⟩; have HN := ak hst; clear hst
 go_wp2_with fail
 go_returns
 exact ⟨aL (by rw [bf.o]), by rw [bf.o]; exact Step.before bB.o HN.o⟩
set_option maxHeartbeats 4000000 in
theorem EZ (s : St) (y : Sy) (r : Rc) (z : Lay) (base b : Nat) (w : World) (ho : Own base w b s y) (hh : Fr (fun j => iw b y j) w r.items r.nodes z) (hs : Small s) (hr : r.items.length <= 1000 /\ r.nodes.length <= 1000) (hkk : r.kind = 6) (hrt : right r = true) :
  Calls Tryz.prog 30 #[(au b), r.val z] w fun e w' => e = .returned (iv (aC s r).2) /\ Step base b s y w (aC s r).1 w' := by
 obtain ⟨wb, hwb⟩ := aj (w.alloc (.cells #[iv r.kind, iv r.tid.node, iv r.tid.epoch, iv r.tid.seq, .slice z.A r.items.length z.c, .slice z.B r.nodes.length z.d, iv r.node, iv r.count, iv r.num, iv r.cell, iv r.status, iv r.hop, iv r.version, iv r.value, .bool r.yes] 51)); have hb : Below w.heap.size w wb := by rw [hwb]; exact av _ _
 have bG := ak (ho.later hb); have bh : Hid (Cells wb w.heap.size 51 (r.vals z)) := ak (by rw [hwb]; exact aB _ _ _ _ rfl); have bI := ak (hh.later hb); have bH := ak hb; have dU := ak hs; have dP := ak hr; have iG := ak hrt; have HK := ak hkk; clear hrt hkk; obtain ⟨F, hF⟩ := ah (aC s r); have HF := ak hF.symm; rw [hF]; unfold Rc.val; clear ho hh hs hr hb hF
 go_enter Tryz.func30, Tryz.ntmps30
 go_wp2_with fail
 rw [<- hwb]; clear hwb; have hx := bh.o; unfold Rc.vals at hx; obtain ⟨x0, x1, x2, x3, x4, x5, x6, x7, x8, x9, x10, eW, eV, eU, dZ⟩ := hx.iZ; clear hx; have kW : Hid (Calls Tryz.prog 25 #[.agg (r.va z)] wb fun e w' => e = .returned (.bool true) /\ Below wb.heap.size wb w') := ak (by have h := cU r z wb ⟨bI.o.two.1, bI.o.two.2.1⟩ dP.o.1 dP.o.2; unfold Rc.val at h; rw [iG.o] at h; exact h)
 go_wp2_with fail
 refine kW.o.mono ?_; rintro e wc ⟨rfl, hI⟩; clear x0 x1 x2 x3 x4 x5 x6 x7 x8 x9 x10 eW eV eU dZ; have aR := ak (bG.o.later hI); have bO := ak (bh.o.later hI); have cB := ak (bI.o.later hI); have bB := ak (bH.o.trans (hI.mono bH.o.size)); clear hI; have bf : Hid (F = cK s r) := ak (by rw [HF.o]; unfold aC; rw [if_neg (by rw [iG.o]; decide)]; unfold aV; rw [if_neg (by rw [HK.o]; decide)]; rw [if_neg (by rw [HK.o]; decide)]; rw [if_neg (by rw [HK.o]; decide)]; rw [if_neg (by rw [HK.o]; decide)]; rw [if_pos HK.o]); have hx := bO.o; unfold Rc.vals at hx; obtain ⟨x0, x1, x2, x3, x4, x5, x6, x7, x8, x9, x10, eW, eV, eU, dZ⟩ := hx.iZ; clear hx; rw [HK.o] at x0; have HP : Hid (Calls Tryz.prog 59 #[(au b), .agg #[iv 6, iv r.tid.node, iv r.tid.epoch, iv r.tid.seq, .slice z.A r.items.length z.c, .slice z.B r.nodes.length z.d, iv r.node, iv r.count, iv r.num, iv r.cell, iv r.status, iv r.hop, iv r.version, iv r.value, .bool r.yes]] wc fun e w' => e = .returned (iv (cK s r).2) /\ Step base b s y wc (cK s r).1 w') := ak (by have h := AW s y r z base b wc aR.o cB.o dU.o dP.o; unfold Rc.val at h; rw [HK.o] at h; exact h)
 go_wp2_with fail
 clear x0 x1 x2 x3 x4 x5 x6 x7 x8 x9 x10 eW eV eU dZ; refine HP.o.mono ?_; rintro e w9 ⟨rfl, hst⟩; have HN := ak hst; clear hst
 go_wp2_with fail
 go_returns
 exact ⟨aL (by rw [bf.o]), by rw [bf.o]; exact Step.before bB.o HN.o⟩
set_option maxHeartbeats 4000000 in
theorem AB (s : St) (y : Sy) (r : Rc) (z : Lay) (base b : Nat) (w : World) (ho : Own base w b s y) (hh : Fr (fun j => iw b y j) w r.items r.nodes z) (hs : Small s) (hr : r.items.length <= 1000 /\ r.nodes.length <= 1000) (hkk : r.kind = 11) (hrt : right r = true) :
  Calls Tryz.prog 30 #[(au b), r.val z] w fun e w' => e = .returned (iv (aC s r).2) /\ Step base b s y w (aC s r).1 w' := by
 obtain ⟨wb, hwb⟩ := aj (w.alloc (.cells #[iv r.kind, iv r.tid.node, iv r.tid.epoch, iv r.tid.seq, .slice z.A r.items.length z.c, .slice z.B r.nodes.length z.d, iv r.node, iv r.count, iv r.num, iv r.cell, iv r.status, iv r.hop, iv r.version, iv r.value, .bool r.yes] 51)); have hb : Below w.heap.size w wb := by rw [hwb]; exact av _ _
 have bG := ak (ho.later hb); have bh : Hid (Cells wb w.heap.size 51 (r.vals z)) := ak (by rw [hwb]; exact aB _ _ _ _ rfl); have bI := ak (hh.later hb); have bH := ak hb; have dU := ak hs; have dP := ak hr; have iG := ak hrt; have HK := ak hkk; clear hrt hkk; obtain ⟨F, hF⟩ := ah (aC s r); have HF := ak hF.symm; rw [hF]; unfold Rc.val; clear ho hh hs hr hb hF
 go_enter Tryz.func30, Tryz.ntmps30
 go_wp2_with fail
 rw [<- hwb]; clear hwb; have hx := bh.o; unfold Rc.vals at hx; obtain ⟨x0, x1, x2, x3, x4, x5, x6, x7, x8, x9, x10, eW, eV, eU, dZ⟩ := hx.iZ; clear hx; have kW : Hid (Calls Tryz.prog 25 #[.agg (r.va z)] wb fun e w' => e = .returned (.bool true) /\ Below wb.heap.size wb w') := ak (by have h := cU r z wb ⟨bI.o.two.1, bI.o.two.2.1⟩ dP.o.1 dP.o.2; unfold Rc.val at h; rw [iG.o] at h; exact h)
 go_wp2_with fail
 refine kW.o.mono ?_; rintro e wc ⟨rfl, hI⟩; clear x0 x1 x2 x3 x4 x5 x6 x7 x8 x9 x10 eW eV eU dZ; have aR := ak (bG.o.later hI); have bO := ak (bh.o.later hI); have cB := ak (bI.o.later hI); have bB := ak (bH.o.trans (hI.mono bH.o.size)); clear hI; have bf : Hid (F = dK s r) := ak (by rw [HF.o]; unfold aC; rw [if_neg (by rw [iG.o]; decide)]; unfold aV; rw [if_neg (by rw [HK.o]; decide)]; rw [if_neg (by rw [HK.o]; decide)]; rw [if_neg (by rw [HK.o]; decide)]; rw [if_neg (by rw [HK.o]; decide)]; rw [if_neg (by rw [HK.o]; decide)]; rw [if_pos HK.o]); have hx := bO.o; unfold Rc.vals at hx; obtain ⟨x0, x1, x2, x3, x4, x5, x6, x7, x8, x9, x10, eW, eV, eU, dZ⟩ := hx.iZ; clear hx; rw [HK.o] at x0; have HP : Hid (Calls Tryz.prog 60 #[(au b), .agg #[iv 11, iv r.tid.node, iv r.tid.epoch, iv r.tid.seq, .slice z.A r.items.length z.c, .slice z.B r.nodes.length z.d, iv r.node, iv r.count, iv r.num, iv r.cell, iv r.status, iv r.hop, iv r.version, iv r.value, .bool r.yes]] wc fun e w' => e = .returned (iv (dK s r).2) /\ Step base b s y wc (dK s r).1 w') := ak (by have h := xJ s y r z base b wc aR.o cB.o.two dU.o dP.o; unfold Rc.val at h; rw [HK.o] at h; exact h)
 go_wp2_with fail
 clear x0 x1 x2 x3 x4 x5 x6 x7 x8 x9 x10 eW eV eU dZ; refine HP.o.mono ?_; rintro e w9 ⟨rfl, hst⟩; have HN := ak hst; clear hst
 go_wp2_with fail
 go_returns
 exact ⟨aL (by rw [bf.o]), by rw [bf.o]; exact Step.before bB.o HN.o⟩
set_option maxHeartbeats 4000000 in
theorem E0 (s : St) (y : Sy) (r : Rc) (z : Lay) (base b : Nat) (w : World) (ho : Own base w b s y) (hh : Fr (fun j => iw b y j) w r.items r.nodes z) (hs : Small s) (hr : r.items.length <= 1000 /\ r.nodes.length <= 1000) (hkk : r.kind = 5) (hrt : right r = true) :
  Calls Tryz.prog 30 #[(au b), r.val z] w fun e w' => e = .returned (iv (aC s r).2) /\ Step base b s y w (aC s r).1 w' := by
 obtain ⟨wb, hwb⟩ := aj (w.alloc (.cells #[iv r.kind, iv r.tid.node, iv r.tid.epoch, iv r.tid.seq, .slice z.A r.items.length z.c, .slice z.B r.nodes.length z.d, iv r.node, iv r.count, iv r.num, iv r.cell, iv r.status, iv r.hop, iv r.version, iv r.value, .bool r.yes] 51)); have hb : Below w.heap.size w wb := by rw [hwb]; exact av _ _
 have bG := ak (ho.later hb); have bh : Hid (Cells wb w.heap.size 51 (r.vals z)) := ak (by rw [hwb]; exact aB _ _ _ _ rfl); have bI := ak (hh.later hb); have bH := ak hb; have dU := ak hs; have dP := ak hr; have iG := ak hrt; have HK := ak hkk; clear hrt hkk; obtain ⟨F, hF⟩ := ah (aC s r); have HF := ak hF.symm; rw [hF]; unfold Rc.val; clear ho hh hs hr hb hF
 go_enter Tryz.func30, Tryz.ntmps30
 go_wp2_with fail
 rw [<- hwb]; clear hwb; have hx := bh.o; unfold Rc.vals at hx; obtain ⟨x0, x1, x2, x3, x4, x5, x6, x7, x8, x9, x10, eW, eV, eU, dZ⟩ := hx.iZ; clear hx; have kW : Hid (Calls Tryz.prog 25 #[.agg (r.va z)] wb fun e w' => e = .returned (.bool true) /\ Below wb.heap.size wb w') := ak (by have h := cU r z wb ⟨bI.o.two.1, bI.o.two.2.1⟩ dP.o.1 dP.o.2; unfold Rc.val at h; rw [iG.o] at h; exact h)
 go_wp2_with fail
 refine kW.o.mono ?_; rintro e wc ⟨rfl, hI⟩; clear x0 x1 x2 x3 x4 x5 x6 x7 x8 x9 x10 eW eV eU dZ; have aR := ak (bG.o.later hI); have bO := ak (bh.o.later hI); have cB := ak (bI.o.later hI); have bB := ak (bH.o.trans (hI.mono bH.o.size)); clear hI; have bf : Hid (F = cQ s r) := ak (by rw [HF.o]; unfold aC; rw [if_neg (by rw [iG.o]; decide)]; unfold aV; rw [if_neg (by rw [HK.o]; decide)]; rw [if_neg (by rw [HK.o]; decide)]; rw [if_neg (by rw [HK.o]; decide)]; rw [if_neg (by rw [HK.o]; decide)]; rw [if_neg (by rw [HK.o]; decide)]; rw [if_neg (by rw [HK.o]; decide)]; rw [if_pos HK.o]); have hx := bO.o; unfold Rc.vals at hx; obtain ⟨x0, x1, x2, x3, x4, x5, x6, x7, x8, x9, x10, eW, eV, eU, dZ⟩ := hx.iZ; clear hx; rw [HK.o] at x0; have HP : Hid (Calls Tryz.prog 61 #[(au b), .agg #[iv 5, iv r.tid.node, iv r.tid.epoch, iv r.tid.seq, .slice z.A r.items.length z.c, .slice z.B r.nodes.length z.d, iv r.node, iv r.count, iv r.num, iv r.cell, iv r.status, iv r.hop, iv r.version, iv r.value, .bool r.yes]] wc fun e w' => e = .returned (iv (cQ s r).2) /\ Step base b s y wc (cQ s r).1 w') := ak (by have h := AY s y r z base b wc aR.o cB.o.two dU.o dP.o; unfold Rc.val at h; rw [HK.o] at h; exact h)
 go_wp2_with fail
 clear x0 x1 x2 x3 x4 x5 x6 x7 x8 x9 x10 eW eV eU dZ; refine HP.o.mono ?_; rintro e w9 ⟨rfl, hst⟩; have HN := ak hst; clear hst
 go_wp2_with fail
 go_returns
 exact ⟨aL (by rw [bf.o]), by rw [bf.o]; exact Step.before bB.o HN.o⟩
