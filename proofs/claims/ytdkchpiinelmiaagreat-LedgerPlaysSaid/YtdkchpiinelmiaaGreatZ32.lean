/- Part 32 of the proof. Conditions: none. -/
import Derived.Test.YtdkchpiinelmiaaGreatZ30
namespace Go.Proofs.YtdkchpiinelmiaaGreat.Led
set_option maxRecDepth 100000
open Go.RowKit Go.Deep Mem fN Rec
set_option maxHeartbeats 4000000 in
theorem EY (s : St) (y : Sy) (r : Rc) (z : Lay) (base b : Nat) (w : World) (ho : Own base w b s y) (hh : Fr (fun j => iw b y j) w r.items r.nodes z) (hs : Small s) (hr : r.items.length <= 1000 /\ r.nodes.length <= 1000) (hkk : r.kind = 7) (hrt : right r = true) :
  Calls Tryz.prog 30 #[(au b), r.val z] w fun e w' => e = .returned (iv (aC s r).2) /\ Step base b s y w (aC s r).1 w' := by
 obtain ⟨wb, hwb⟩ := aj (w.alloc (.cells #[iv r.kind, iv r.tid.node, iv r.tid.epoch, iv r.tid.seq, .slice z.A r.items.length z.c, .slice z.B r.nodes.length z.d, iv r.node, iv r.count, iv r.num, iv r.cell, iv r.status, iv r.hop, iv r.version, iv r.value, .bool r.yes] 51)); have hb : Below w.heap.size w wb := by rw [hwb]; exact av _ _
 have bG := ak (ho.later hb); have bh : Hid (Cells wb w.heap.size 51 (r.vals z)) := ak (by rw [hwb]; exact aB _ _ _ _ rfl); have bI := ak (hh.later hb); have bH := ak hb; have dU := ak hs; have dP := ak hr; have iG := ak hrt; have HK := ak hkk; clear hrt hkk; obtain ⟨F, hF⟩ := ah (aC s r); have HF := ak hF.symm; rw [hF]; unfold Rc.val; clear ho hh hs hr hb hF
 go_enter Tryz.func30, Tryz.ntmps30
 go_wp2_with fail
 rw [<- hwb]; clear hwb; have hx := bh.o; unfold Rc.vals at hx; obtain ⟨x0, x1, x2, x3, x4, x5, x6, x7, x8, x9, x10, eW, eV, eU, dZ⟩ := hx.iZ; clear hx; have kW : Hid (Calls Tryz.prog 25 #[.agg (r.va z)] wb fun e w' => e = .returned (.bool true) /\ Below wb.heap.size wb w') := ak (by have h := cU r z wb ⟨bI.o.two.1, bI.o.two.2.1⟩ dP.o.1 dP.o.2; unfold Rc.val at h; rw [iG.o] at h; exact h)
 go_wp2_with fail
 refine kW.o.mono ?_; rintro e wc ⟨rfl, hI⟩; clear x0 x1 x2 x3 x4 x5 x6 x7 x8 x9 x10 eW eV eU dZ; have aR := ak (bG.o.later hI); have bO := ak (bh.o.later hI); have cB := ak (bI.o.later hI); have bB := ak (bH.o.trans (hI.mono bH.o.size)); clear hI; have bf : Hid (F = lf s r) := ak (by rw [HF.o]; unfold aC; rw [if_neg (by rw [iG.o]; decide)]; unfold aV; rw [if_neg (by rw [HK.o]; decide)]; rw [if_neg (by rw [HK.o]; decide)]; rw [if_neg (by rw [HK.o]; decide)]; rw [if_neg (by rw [HK.o]; decide)]; rw [if_neg (by rw [HK.o]; decide)]; rw [if_neg (by rw [HK.o]; decide)]; rw [if_neg (by rw [HK.o]; decide)]; rw [if_pos HK.o]); have hx := bO.o; unfold Rc.vals at hx; obtain ⟨x0, x1, x2, x3, x4, x5, x6, x7, x8, x9, x10, eW, eV, eU, dZ⟩ := hx.iZ; clear hx; rw [HK.o] at x0; have HP : Hid (Calls Tryz.prog 62 #[(au b), .agg #[iv 7, iv r.tid.node, iv r.tid.epoch, iv r.tid.seq, .slice z.A r.items.length z.c, .slice z.B r.nodes.length z.d, iv r.node, iv r.count, iv r.num, iv r.cell, iv r.status, iv r.hop, iv r.version, iv r.value, .bool r.yes]] wc fun e w' => e = .returned (iv (lf s r).2) /\ Step base b s y wc (lf s r).1 w') := ak (by have h := Kj s y r z base b wc aR.o cB.o.two dU.o dP.o; unfold Rc.val at h; rw [HK.o] at h; exact h)
 go_wp2_with fail
 clear x0 x1 x2 x3 x4 x5 x6 x7 x8 x9 x10 eW eV eU dZ; refine HP.o.mono ?_; rintro e w9 ⟨rfl, hst⟩; have HN := ak hst; clear hst
 go_wp2_with fail
 go_returns
 exact ⟨aL (by rw [bf.o]), by rw [bf.o]; exact Step.before bB.o HN.o⟩
set_option maxHeartbeats 4000000 in
theorem EX (s : St) (y : Sy) (r : Rc) (z : Lay) (base b : Nat) (w : World) (ho : Own base w b s y) (hh : Fr (fun j => iw b y j) w r.items r.nodes z) (hs : Small s) (hr : r.items.length <= 1000 /\ r.nodes.length <= 1000) (hkk : r.kind = 8) (hrt : right r = true) :
  Calls Tryz.prog 30 #[(au b), r.val z] w fun e w' => e = .returned (iv (aC s r).2) /\ Step base b s y w (aC s r).1 w' := by
 obtain ⟨wb, hwb⟩ := aj (w.alloc (.cells #[iv r.kind, iv r.tid.node, iv r.tid.epoch, iv r.tid.seq, .slice z.A r.items.length z.c, .slice z.B r.nodes.length z.d, iv r.node, iv r.count, iv r.num, iv r.cell, iv r.status, iv r.hop, iv r.version, iv r.value, .bool r.yes] 51)); have hb : Below w.heap.size w wb := by rw [hwb]; exact av _ _
 have bG := ak (ho.later hb); have bh : Hid (Cells wb w.heap.size 51 (r.vals z)) := ak (by rw [hwb]; exact aB _ _ _ _ rfl); have bI := ak (hh.later hb); have bH := ak hb; have dU := ak hs; have dP := ak hr; have iG := ak hrt; have HK := ak hkk; clear hrt hkk; obtain ⟨F, hF⟩ := ah (aC s r); have HF := ak hF.symm; rw [hF]; unfold Rc.val; clear ho hh hs hr hb hF
 go_enter Tryz.func30, Tryz.ntmps30
 go_wp2_with fail
 rw [<- hwb]; clear hwb; have hx := bh.o; unfold Rc.vals at hx; obtain ⟨x0, x1, x2, x3, x4, x5, x6, x7, x8, x9, x10, eW, eV, eU, dZ⟩ := hx.iZ; clear hx; have kW : Hid (Calls Tryz.prog 25 #[.agg (r.va z)] wb fun e w' => e = .returned (.bool true) /\ Below wb.heap.size wb w') := ak (by have h := cU r z wb ⟨bI.o.two.1, bI.o.two.2.1⟩ dP.o.1 dP.o.2; unfold Rc.val at h; rw [iG.o] at h; exact h)
 go_wp2_with fail
 refine kW.o.mono ?_; rintro e wc ⟨rfl, hI⟩; clear x0 x1 x2 x3 x4 x5 x6 x7 x8 x9 x10 eW eV eU dZ; have aR := ak (bG.o.later hI); have bO := ak (bh.o.later hI); have cB := ak (bI.o.later hI); have bB := ak (bH.o.trans (hI.mono bH.o.size)); clear hI; have bf : Hid (F = iz s r) := ak (by rw [HF.o]; unfold aC; rw [if_neg (by rw [iG.o]; decide)]; unfold aV; rw [if_neg (by rw [HK.o]; decide)]; rw [if_neg (by rw [HK.o]; decide)]; rw [if_neg (by rw [HK.o]; decide)]; rw [if_neg (by rw [HK.o]; decide)]; rw [if_neg (by rw [HK.o]; decide)]; rw [if_neg (by rw [HK.o]; decide)]; rw [if_neg (by rw [HK.o]; decide)]; rw [if_neg (by rw [HK.o]; decide)]; rw [if_pos HK.o]); have hx := bO.o; unfold Rc.vals at hx; obtain ⟨x0, x1, x2, x3, x4, x5, x6, x7, x8, x9, x10, eW, eV, eU, dZ⟩ := hx.iZ; clear hx; rw [HK.o] at x0; have HP : Hid (Calls Tryz.prog 63 #[(au b), .agg #[iv 8, iv r.tid.node, iv r.tid.epoch, iv r.tid.seq, .slice z.A r.items.length z.c, .slice z.B r.nodes.length z.d, iv r.node, iv r.count, iv r.num, iv r.cell, iv r.status, iv r.hop, iv r.version, iv r.value, .bool r.yes]] wc fun e w' => e = .returned (iv (iz s r).2) /\ Step base b s y wc (iz s r).1 w') := ak (by have h := J4 s y r z base b wc aR.o cB.o.two dU.o dP.o; unfold Rc.val at h; rw [HK.o] at h; exact h)
 go_wp2_with fail
 clear x0 x1 x2 x3 x4 x5 x6 x7 x8 x9 x10 eW eV eU dZ; refine HP.o.mono ?_; rintro e w9 ⟨rfl, hst⟩; have HN := ak hst; clear hst
 go_wp2_with fail
 go_returns
 exact ⟨aL (by rw [bf.o]), by rw [bf.o]; exact Step.before bB.o HN.o⟩
set_option maxHeartbeats 4000000 in
theorem EW (s : St) (y : Sy) (r : Rc) (z : Lay) (base b : Nat) (w : World) (ho : Own base w b s y) (hh : Fr (fun j => iw b y j) w r.items r.nodes z) (hs : Small s) (hr : r.items.length <= 1000 /\ r.nodes.length <= 1000) (hkk : r.kind = 9) (hrt : right r = true) :
  Calls Tryz.prog 30 #[(au b), r.val z] w fun e w' => e = .returned (iv (aC s r).2) /\ Step base b s y w (aC s r).1 w' := by
 obtain ⟨wb, hwb⟩ := aj (w.alloc (.cells #[iv r.kind, iv r.tid.node, iv r.tid.epoch, iv r.tid.seq, .slice z.A r.items.length z.c, .slice z.B r.nodes.length z.d, iv r.node, iv r.count, iv r.num, iv r.cell, iv r.status, iv r.hop, iv r.version, iv r.value, .bool r.yes] 51)); have hb : Below w.heap.size w wb := by rw [hwb]; exact av _ _
 have bG := ak (ho.later hb); have bh : Hid (Cells wb w.heap.size 51 (r.vals z)) := ak (by rw [hwb]; exact aB _ _ _ _ rfl); have bI := ak (hh.later hb); have bH := ak hb; have dU := ak hs; have dP := ak hr; have iG := ak hrt; have HK := ak hkk; clear hrt hkk; obtain ⟨F, hF⟩ := ah (aC s r); have HF := ak hF.symm; rw [hF]; unfold Rc.val; clear ho hh hs hr hb hF
 go_enter Tryz.func30, Tryz.ntmps30
 go_wp2_with fail
 rw [<- hwb]; clear hwb; have hx := bh.o; unfold Rc.vals at hx; obtain ⟨x0, x1, x2, x3, x4, x5, x6, x7, x8, x9, x10, eW, eV, eU, dZ⟩ := hx.iZ; clear hx; have kW : Hid (Calls Tryz.prog 25 #[.agg (r.va z)] wb fun e w' => e = .returned (.bool true) /\ Below wb.heap.size wb w') := ak (by have h := cU r z wb ⟨bI.o.two.1, bI.o.two.2.1⟩ dP.o.1 dP.o.2; unfold Rc.val at h; rw [iG.o] at h; exact h)
 go_wp2_with fail
 refine kW.o.mono ?_; rintro e wc ⟨rfl, hI⟩; clear x0 x1 x2 x3 x4 x5 x6 x7 x8 x9 x10 eW eV eU dZ; have aR := ak (bG.o.later hI); have bO := ak (bh.o.later hI); have cB := ak (bI.o.later hI); have bB := ak (bH.o.trans (hI.mono bH.o.size)); clear hI; have bf : Hid (F = vG s r) := ak (by rw [HF.o]; unfold aC; rw [if_neg (by rw [iG.o]; decide)]; unfold aV; rw [if_neg (by rw [HK.o]; decide)]; rw [if_neg (by rw [HK.o]; decide)]; rw [if_neg (by rw [HK.o]; decide)]; rw [if_neg (by rw [HK.o]; decide)]; rw [if_neg (by rw [HK.o]; decide)]; rw [if_neg (by rw [HK.o]; decide)]; rw [if_neg (by rw [HK.o]; decide)]; rw [if_neg (by rw [HK.o]; decide)]; rw [if_neg (by rw [HK.o]; decide)]; rw [if_pos HK.o]); have hx := bO.o; unfold Rc.vals at hx; obtain ⟨x0, x1, x2, x3, x4, x5, x6, x7, x8, x9, x10, eW, eV, eU, dZ⟩ := hx.iZ; clear hx; rw [HK.o] at x0; have HP : Hid (Calls Tryz.prog 64 #[(au b), .agg #[iv 9, iv r.tid.node, iv r.tid.epoch, iv r.tid.seq, .slice z.A r.items.length z.c, .slice z.B r.nodes.length z.d, iv r.node, iv r.count, iv r.num, iv r.cell, iv r.status, iv r.hop, iv r.version, iv r.value, .bool r.yes]] wc fun e w' => e = .returned (iv (vG s r).2) /\ Step base b s y wc (vG s r).1 w') := ak (by have h := T3 s y r z base b wc aR.o cB.o.two dU.o dP.o; unfold Rc.val at h; rw [HK.o] at h; exact h)
 go_wp2_with fail
 clear x0 x1 x2 x3 x4 x5 x6 x7 x8 x9 x10 eW eV eU dZ; refine HP.o.mono ?_; rintro e w9 ⟨rfl, hst⟩; have HN := ak hst; clear hst
 go_wp2_with fail
 go_returns
 exact ⟨aL (by rw [bf.o]), by rw [bf.o]; exact Step.before bB.o HN.o⟩
set_option maxHeartbeats 4000000 in
theorem AE (s : St) (y : Sy) (r : Rc) (z : Lay) (base b : Nat) (w : World) (ho : Own base w b s y) (hh : Fr (fun j => iw b y j) w r.items r.nodes z) (hs : Small s) (hr : r.items.length <= 1000 /\ r.nodes.length <= 1000) (hkk : r.kind = 10) (hrt : right r = true) :
  Calls Tryz.prog 30 #[(au b), r.val z] w fun e w' => e = .returned (iv (aC s r).2) /\ Step base b s y w (aC s r).1 w' := by
 obtain ⟨wb, hwb⟩ := aj (w.alloc (.cells #[iv r.kind, iv r.tid.node, iv r.tid.epoch, iv r.tid.seq, .slice z.A r.items.length z.c, .slice z.B r.nodes.length z.d, iv r.node, iv r.count, iv r.num, iv r.cell, iv r.status, iv r.hop, iv r.version, iv r.value, .bool r.yes] 51)); have hb : Below w.heap.size w wb := by rw [hwb]; exact av _ _
 have bG := ak (ho.later hb); have bh : Hid (Cells wb w.heap.size 51 (r.vals z)) := ak (by rw [hwb]; exact aB _ _ _ _ rfl); have bI := ak (hh.later hb); have bH := ak hb; have dU := ak hs; have dP := ak hr; have iG := ak hrt; have HK := ak hkk; clear hrt hkk; obtain ⟨F, hF⟩ := ah (aC s r); have HF := ak hF.symm; rw [hF]; unfold Rc.val; clear ho hh hs hr hb hF
 go_enter Tryz.func30, Tryz.ntmps30
 go_wp2_with fail
 rw [<- hwb]; clear hwb; have hx := bh.o; unfold Rc.vals at hx; obtain ⟨x0, x1, x2, x3, x4, x5, x6, x7, x8, x9, x10, eW, eV, eU, dZ⟩ := hx.iZ; clear hx; have kW : Hid (Calls Tryz.prog 25 #[.agg (r.va z)] wb fun e w' => e = .returned (.bool true) /\ Below wb.heap.size wb w') := ak (by have h := cU r z wb ⟨bI.o.two.1, bI.o.two.2.1⟩ dP.o.1 dP.o.2; unfold Rc.val at h; rw [iG.o] at h; exact h)
 go_wp2_with fail
 refine kW.o.mono ?_; rintro e wc ⟨rfl, hI⟩; clear x0 x1 x2 x3 x4 x5 x6 x7 x8 x9 x10 eW eV eU dZ; have aR := ak (bG.o.later hI); have bO := ak (bh.o.later hI); have cB := ak (bI.o.later hI); have bB := ak (bH.o.trans (hI.mono bH.o.size)); clear hI; have bf : Hid (F = fY s r) := ak (by rw [HF.o]; unfold aC; rw [if_neg (by rw [iG.o]; decide)]; unfold aV; rw [if_neg (by rw [HK.o]; decide)]; rw [if_neg (by rw [HK.o]; decide)]; rw [if_neg (by rw [HK.o]; decide)]; rw [if_neg (by rw [HK.o]; decide)]; rw [if_neg (by rw [HK.o]; decide)]; rw [if_neg (by rw [HK.o]; decide)]; rw [if_neg (by rw [HK.o]; decide)]; rw [if_neg (by rw [HK.o]; decide)]; rw [if_neg (by rw [HK.o]; decide)]; rw [if_neg (by rw [HK.o]; decide)]; rw [if_pos HK.o]); have hx := bO.o; unfold Rc.vals at hx; obtain ⟨x0, x1, x2, x3, x4, x5, x6, x7, x8, x9, x10, eW, eV, eU, dZ⟩ := hx.iZ; clear hx; rw [HK.o] at x0; have HP : Hid (Calls Tryz.prog 65 #[(au b), .agg #[iv 10, iv r.tid.node, iv r.tid.epoch, iv r.tid.seq, .slice z.A r.items.length z.c, .slice z.B r.nodes.length z.d, iv r.node, iv r.count, iv r.num, iv r.cell, iv r.status, iv r.hop, iv r.version, iv r.value, .bool r.yes]] wc fun e w' => e = .returned (iv (fY s r).2) /\ Step base b s y wc (fY s r).1 w') := ak (by have h := Ix s y r z base b wc aR.o cB.o.two dU.o dP.o; unfold Rc.val at h; rw [HK.o] at h; exact h)
 go_wp2_with fail
 clear x0 x1 x2 x3 x4 x5 x6 x7 x8 x9 x10 eW eV eU dZ; refine HP.o.mono ?_; rintro e w9 ⟨rfl, hst⟩; have HN := ak hst; clear hst
 go_wp2_with fail
 go_returns
 exact ⟨aL (by rw [bf.o]), by rw [bf.o]; exact Step.before bB.o HN.o⟩
set_option maxHeartbeats 4000000 in
theorem E4 (s : St) (y : Sy) (r : Rc) (z : Lay) (base b : Nat) (w : World) (ho : Own base w b s y) (hh : Fr (fun j => iw b y j) w r.items r.nodes z) (hs : Small s) (hr : r.items.length <= 1000 /\ r.nodes.length <= 1000) (hkk : r.kind = 1) (hrt : right r = true) :
  Calls Tryz.prog 30 #[(au b), r.val z] w fun e w' => e = .returned (iv (aC s r).2) /\ Step base b s y w (aC s r).1 w' := by
 obtain ⟨wb, hwb⟩ := aj (w.alloc (.cells #[iv r.kind, iv r.tid.node, iv r.tid.epoch, iv r.tid.seq, .slice z.A r.items.length z.c, .slice z.B r.nodes.length z.d, iv r.node, iv r.count, iv r.num, iv r.cell, iv r.status, iv r.hop, iv r.version, iv r.value, .bool r.yes] 51)); have hb : Below w.heap.size w wb := by rw [hwb]; exact av _ _
 have bG := ak (ho.later hb); have bh : Hid (Cells wb w.heap.size 51 (r.vals z)) := ak (by rw [hwb]; exact aB _ _ _ _ rfl); have bI := ak (hh.later hb); have bH := ak hb; have dU := ak hs; have dP := ak hr; have iG := ak hrt; have HK := ak hkk; clear hrt hkk; obtain ⟨F, hF⟩ := ah (aC s r); have HF := ak hF.symm; rw [hF]; unfold Rc.val; clear ho hh hs hr hb hF
 go_enter Tryz.func30, Tryz.ntmps30
 go_wp2_with fail
 rw [<- hwb]; clear hwb; have hx := bh.o; unfold Rc.vals at hx; obtain ⟨x0, x1, x2, x3, x4, x5, x6, x7, x8, x9, x10, eW, eV, eU, dZ⟩ := hx.iZ; clear hx; have kW : Hid (Calls Tryz.prog 25 #[.agg (r.va z)] wb fun e w' => e = .returned (.bool true) /\ Below wb.heap.size wb w') := ak (by have h := cU r z wb ⟨bI.o.two.1, bI.o.two.2.1⟩ dP.o.1 dP.o.2; unfold Rc.val at h; rw [iG.o] at h; exact h)
 go_wp2_with fail
 refine kW.o.mono ?_; rintro e wc ⟨rfl, hI⟩; clear x0 x1 x2 x3 x4 x5 x6 x7 x8 x9 x10 eW eV eU dZ; have aR := ak (bG.o.later hI); have bO := ak (bh.o.later hI); have cB := ak (bI.o.later hI); have bB := ak (bH.o.trans (hI.mono bH.o.size)); clear hI; have hnm := iM iG.o HK.o; obtain ⟨n, hn⟩ := Int.eq_ofNat_of_zero_le (show 0 <= r.num by omega)
 have HN := ak hn; have bf : Hid (F = (cJ r.node r.count n, 0)) := ak (by rw [HF.o]; unfold aC; rw [if_neg (by rw [iG.o]; decide)]; unfold aV; rw [HK.o, hn]; rfl); have Gk : n <= 16 := by omega
 have hx := bO.o; unfold Rc.vals at hx; obtain ⟨x0, x1, x2, x3, x4, x5, x6, x7, x8, x9, x10, eW, eV, eU, dZ⟩ := hx.iZ; clear hx; rw [HK.o] at x0; rw [hn] at x8; clear hn hnm
 go_wp2_with fail
 clear x0 x1 x2 x3 x4 x5 x6 x7 x8 x9 x10 eW eV eU dZ; refine (vh r.node r.count n wc Gk).mono ?_; rintro e w2 ⟨⟨z2, rfl, hl⟩, hb2⟩; have HL := ak hl; have bZ := ak hb2; have l7 := ak (aR.o.br.later hb2); clear hl hb2; rename_i zy; refine zy _ _ ?_; refine Go.Great.wpList_runTo rfl (some 20) rfl ((au b)) w2 (by rfl) ?_; refine aA rfl 32 _ _ rfl b #[iv r.node, iv r.count, iv (n : Int), iv 0, .slice z2.P (List.replicate n rH).length z2.p, .slice z2.Q 0 z2.q, .slice z2.D 0 z2.d, .slice z2.C 0 z2.c] [iv r.node, iv r.count, iv (n : Int), iv 0, .slice z2.P (List.replicate n rH).length z2.p, .slice z2.Q 0 z2.q, .slice z2.D 0 z2.d, .slice z2.C 0 z2.c] rfl rfl (by rfl) l7.o rfl (by kernel_rfl) (by simp [Value.oneCell']) fun w9 hpt hov => ?_
 have HST : Hid (Step base b s y wc (cJ r.node r.count n) w9) := ak (Em aR.o bZ.o HL.o hpt hov); clear hpt hov
 go_wp2_with fail
 go_returns
 exact ⟨aL (by rw [bf.o]), by rw [bf.o]; exact Step.before bB.o HST.o⟩
