/-
 Layer 8: whatever is prepared can be decided, either way, and then its cells are free: LedgerFinishes. Conditions: none.
-/
import Derived.Test.YtakeldpmfbahnaaLedLaw
namespace Go.Proofs.Ytakeldpmfbahnaa.LedgerFinishes
set_option maxRecDepth 100000
open Go.ChangeShapes Go.WideShapes Go.ChangeAt Go.RowKit Go.Deep Go.Proofs.Ytakeldpmfbahnaa.Mem Go.Proofs.Ytakeldpmfbahnaa.Item Go.Proofs.Ytakeldpmfbahnaa.Rec Go.Proofs.Ytakeldpmfbahnaa.Led

/-- Where the outer loop stands. -/
structure Out (w wr : World) (s : St) (y : Sy) (b7 : Nat) : Prop where
 low : Below w.heap.size w wr
 box : Cells wr b7 32 (s.vals y)
 sees : Sees wr s y
theorem Out.later {w wr w' : World} {s : St} {y : Sy} {b7 : Nat} (h : Out w wr s y b7) (hb : Below wr.heap.size wr w') : Out w w' s y b7 := ⟨h.low.trans (hb.mono h.low.size), h.box.later hb, h.sees.later hb⟩
/-- Where the inner loop stands. -/
structure Inn (w wr : World) (s t : St) (y z : Sy) (p : Pr) (lay : Lay) (b7 bp bt : Nat) : Prop where
 out : Out w wr s y b7
 prep : Cells wr bp 49 (p.vals lay)
 two : Two wr p.items p.nodes lay
 box : Cells wr bt 32 (t.vals z)
 sees : Sees wr t z
theorem Inn.later {w wr w' : World} {s t : St} {y z : Sy} {p : Pr} {lay : Lay} {b7 bp bt : Nat} (h : Inn w wr s t y z p lay b7 bp bt) (hb : Below wr.heap.size wr w') : Inn w w' s t y z p lay b7 bp bt := ⟨h.out.later hb, h.prep.later hb, h.two.later hb, h.box.later hb, h.sees.later hb⟩

set_option maxHeartbeats 2000000 in
theorem walk (b1 b2 b3 : Int) (A : Option Addr) (l : List Rc) (zs : List Lay) (cap : Nat) (yes : Bool) (W : World) (hr : Recs W A l zs) (hl : l.length ≤ maxLen) (hs : ∀ r ∈ l, r.items.length ≤ maxLen ∧ r.nodes.length ≤ maxLen) :
  Calls Try.prog 4 #[.agg #[.int .i64 b1, .int .i64 b2, .int .i64 b3], .slice A l.length cap, .bool yes] W fun e W' => e = .returned (.bool true) ∧ Below W.heap.size W W' := by
 obtain ⟨w1, hw1⟩ : ∃ v, v = W.alloc (.cells #[.int .i64 b1, .int .i64 b2, .int .i64 b3] 23) := ⟨_, rfl⟩
 have hb1 : Below W.heap.size W w1 := by rw [hw1]; exact below_alloc _ _
 have hc1 : Cells w1 W.heap.size 23 [.int .i64 b1, .int .i64 b2, .int .i64 b3] := by rw [hw1]; exact cells_new _ _ _ _ rfl
 have HR := Lib.hid hr
 have HLS := Lib.hid hs
 have HB1 := Lib.hid hb1
 have HC1 := Lib.hid hc1
 have HG := Lib.hid (fun w (h : Below W.heap.size W w) => great_any A l zs cap 80 w (hr.later h) hl hs (by decide))
 have HGS := Lib.hid (fun (h : greatB l 80 = false) => great_small h)
 have HRE := Lib.hid (fun (w : World) (h : Below W.heap.size W w) (h1 : l.length ≤ 80) (h2 : ∀ r ∈ l, r.items.length ≤ 60 ∧ r.nodes.length ≤ 60) => reached_any b1 b2 b3 A l zs cap w (hr.later h) (by omega) (fun r hr => ⟨Nat.le_trans (h2 r hr).1 (by decide), Nat.le_trans (h2 r hr).2 (by decide)⟩))
 have HRG := Lib.hid (fun (h1 : l.length ≤ 80) (h2 : ∀ r ∈ l, r.items.length ≤ 60 ∧ r.nodes.length ≤ 60) => reachM_good b1 b2 b3 (l := l) (fun r hr => ⟨Nat.le_trans (h2 r hr).1 (by decide), Nat.le_trans (h2 r hr).2 (by decide)⟩))
 obtain ⟨G, hG⟩ : ∃ G, greatB l 80 = G := ⟨_, rfl⟩
 obtain ⟨M, hM⟩ : ∃ M, reachM b1 b2 b3 l = M := ⟨_, rfl⟩
 rw [hG] at HG HGS
 rw [hM] at HRE HRG
 obtain ⟨n, hn⟩ : ∃ n, l.length = n := ⟨_, rfl⟩
 rw [hn] at HG HRE HRG HGS ⊢
 clear hr hl hs hb1 hc1 hG hM hn
 go_enter Try.func4, Try.ntmps4
 go_wp2_with fail
 rw [← hw1]
 clear hw1
 refine (awake_any w1).mono ?_
 rintro e w2 ⟨rfl, hb2⟩
 have HB2 := Lib.hid (HB1.out.trans (hb2.mono HB1.out.size))
 have HC2 := Lib.hid (HC1.out.later hb2)
 clear hb2 HB1 HC1
 go_wp2_with fail
 refine (HG.out w2 HB2.out).mono ?_
 rintro e w3 ⟨rfl, hb3⟩
 have HB3 := Lib.hid (HB2.out.trans (hb3.mono HB2.out.size))
 have hc3 := HC2.out.later hb3
 clear hb3 HB2 HC2 HG
 cases G with
 | true =>
  go_wp2_with fail
  go_returns
  exact ⟨rfl, HB3.out⟩
 | false =>
  have HSM := Lib.hid (HGS.out rfl)
  have q0 := hc3.cell (j := 0) rfl
  have q1 := hc3.cell (j := 1) rfl
  have q2 := hc3.cell (j := 2) rfl
  clear HGS hc3
  go_wp2_with fail
  clear q0 q1 q2
  refine (HRE.out w3 HB3.out HSM.out.1 HSM.out.2).mono ?_
  rintro e w4 ⟨⟨y, rfl, hst⟩, hb4⟩
  have HGD := Lib.hid (HRG.out HSM.out.1 HSM.out.2)
  have HB4 := Lib.hid (HB3.out.trans (hb4.mono HB3.out.size))
  have HST := Lib.hid hst
  clear hb4 hst HRE HRG
  obtain ⟨s, ok⟩ := M
  simp only at HGD HST
  cases ok with
  | false =>
   simp only [St.val]
   go_wp2_with fail
   go_returns
   exact ⟨rfl, HB4.out.trans ((below_alloc _ _).mono HB4.out.size)⟩
  | true =>
   have HI := Lib.hid (HGD.out rfl).1
   have HZ := Lib.hid (HGD.out rfl).2
   obtain ⟨w5, hw5⟩ : ∃ v, v = w4.alloc (.cells #[.int .i64 s.node, .int .i64 s.nodes, .int .i64 s.cells, .int .i64 s.epoch, .slice y.P s.places.length y.p, .slice y.Q s.prep.length y.q, .slice y.D s.dec.length y.d, .slice y.C s.com.length y.c] 32) := ⟨_, rfl⟩
   have hb5 : Below w4.heap.size w4 w5 := by rw [hw5]; exact below_alloc _ _
   have HO5 : Hid (Out W w5 s y w4.heap.size) := Lib.hid ⟨HB4.out.trans (hb5.mono HB4.out.size), by rw [hw5]; exact cells_new _ _ _ _ rfl, HST.out.sees.later hb5⟩
   have HP : Hid (s.prep.length ≤ n) := Lib.hid HZ.out.prep
   obtain ⟨m, hm⟩ : ∃ m, s.prep.length = m := ⟨_, rfl⟩
   have HM := Lib.hid hm
   simp only [St.val]
   rw [hm] at HP hw5 ⊢
   have hmb : m ≤ 80 := Nat.le_trans HP.out HSM.out.1
   clear hb5 HGD HST HB4 HB3 hm
   go_wp2_with fail
   rw [← hw5]
   clear hw5
   generalize w4.heap.size = b7 at HO5 ⊢
   go_loopw [33] (fun i wr => ∃ k : Nat, k ≤ m ∧ i = .int .i64 (k : Int) ∧ Hid (Out W wr s y b7)) (fun i _ => m - (intOf i).toNat)
   case atStart => exact ⟨0, Nat.zero_le _, rfl, HO5⟩
   case round =>
    obtain ⟨k, hk, rfl, HO⟩ := hrel
    by_cases hlt : k < m
    ·have hks : k < s.prep.length := by have := HM.out; omega
     have hky : k < y.ps.length := by have := HO.out.sees.ps; omega
     obtain ⟨qb, qo, hQ, hrow⟩ := HO.out.sees.prep k (by rw [List.length_zipWith]; omega)
     rw [List.getElem_zipWith] at hrow
     have hfin := finish HI.out hks yes
     have hap := apply_one s (rcD s.prep[k].tid yes)
     rw [if_pos hfin.1] at hap
     have htz := HZ.out.follow (rcD s.prep[k].tid yes) ⟨Nat.zero_le _, Nat.zero_le _⟩
     have htwo := HO.out.sees.pin k hks hky
     have hpl := HZ.out.pin s.prep[k] (List.getElem_mem hks)
     obtain ⟨t, ht⟩ : ∃ t, (fFollow s (rcD s.prep[k].tid yes)).1 = t := ⟨_, rfl⟩
     rw [ht] at hfin hap htz
     have hfn := hfin.2
     obtain ⟨p, hp⟩ : ∃ p, s.prep[k] = p := ⟨_, rfl⟩
     obtain ⟨lay, hlay⟩ : ∃ x, y.ps[k] = x := ⟨_, rfl⟩
     rw [hp] at hrow hfn hap htwo hpl
     rw [hlay] at hrow htwo
     have HFN := Lib.hid hfn
     have HTZ := Lib.hid htz
     have HTWO := Lib.hid htwo
     have HPL := Lib.hid hpl
     clear hfin ht hp hlay hks hky hfn htz htwo hpl
     have x0 : wr.cell? ⟨qb, qo + k * 5, none⟩ = some (.int .i64 p.tid.node) := hrow 0 _ rfl
     have x1 : wr.cell? ⟨qb, qo + k * 5 + 1, none⟩ = some (.int .i64 p.tid.epoch) := hrow 1 _ rfl
     have x2 : wr.cell? ⟨qb, qo + k * 5 + 2, none⟩ = some (.int .i64 p.tid.seq) := hrow 2 _ rfl
     have x3 : wr.cell? ⟨qb, qo + k * 5 + 3, none⟩ = some (.slice lay.A p.items.length lay.c) := hrow 3 _ rfl
     have x4 : wr.cell? ⟨qb, qo + k * 5 + 4, none⟩ = some (.slice lay.B p.nodes.length lay.d) := hrow 4 _ rfl
     clear hrow
     obtain ⟨wx, hwx⟩ : ∃ v, v = wr.alloc (.cells #[.int .i64 p.tid.node, .int .i64 p.tid.epoch, .int .i64 p.tid.seq, .slice lay.A p.items.length lay.c, .slice lay.B p.nodes.length lay.d] 49) := ⟨_, rfl⟩
     obtain ⟨wy, hwy⟩ : ∃ v, v = wx.alloc (.cells #[.int .i64 6, .int .i64 p.tid.node, .int .i64 p.tid.epoch, .int .i64 p.tid.seq, .slice none 0 0, .slice none 0 0, .int .i64 0, .int .i64 0, .int .i64 0, .int .i64 0, .int .i64 0, .int .i64 0, .int .i64 0, .int .i64 0, .bool yes] 41) := ⟨_, rfl⟩
     have hsx : wx.heap.size = wr.heap.size + 1 := by rw [hwx, World.size_alloc]
     have hbx : Below wr.heap.size wr wx := by rw [hwx]; exact below_alloc _ _
     have hbxy : Below wx.heap.size wx wy := by rw [hwy]; exact below_alloc _ _
     have hby : Below wr.heap.size wr wy := hbx.trans (hbxy.mono hbx.size)
     have hcr : Cells wy (wr.heap.size + 1) 41 ((rcD p.tid yes).vals lay0) := by rw [← hsx, hwy]; exact cells_new _ _ _ _ rfl
     have hcp : Cells wy wr.heap.size 49 (p.vals lay) := Cells.later (by rw [hwx]; exact cells_new _ _ _ _ rfl) hbxy
     have HAP := Lib.hid (Apply_any s y [rcD p.tid yes] [lay0] (some ⟨wr.heap.size + 1, 0, none⟩) 1 n wy (HO.out.later hby).sees HZ.out
      ⟨cells_sl (sz := 15) (by simpa using hcr) (fun v hv => by rw [List.mem_singleton.1 hv]; rfl), rfl, fun j h1 h2 => by
       have : j = 0 := by simp at h1; omega
       subst this
       exact ⟨items_nil _ _, nums_nil _ _, fun _ => rfl, fun _ => rfl⟩⟩ (fun x hx => by rw [List.mem_singleton.1 hx]; exact ⟨Nat.zero_le _, Nat.zero_le _⟩) (by have := HSM.out.1; simp only [List.length_singleton]; omega))
     rw [hap] at HAP
     have HOY := Lib.hid (HO.out.later hby)
     have HCP := Lib.hid hcp
     have HTY := Lib.hid (HTWO.out.later hby)
     have hq := HO.out.box
     unfold St.vals at hq
     have q0 := hq.cell (j := 0) rfl
     have q1 := hq.cell (j := 1) rfl
     have q2 := hq.cell (j := 2) rfl
     have q3 := hq.cell (j := 3) rfl
     have q4 := hq.cell (j := 4) rfl
     have q5 := hq.cell (j := 5) rfl
     have q6 := hq.cell (j := 6) rfl
     have q7 := hq.cell (j := 7) rfl
     have hlt7 := hq.lt
     have hms := HM.out
     rw [hms] at q5
     unfold St.val at HAP
     rw [hms] at HAP
     clear hap hsx hbx hbxy hby hcr hcp hq hms HTWO
     simp only [hQ]
     clear hQ
     go_wp2_with fail
     rw [← hwx]
     rw [← hwy]
     clear hwx hwy hlt7 q0 q1 q2 q3 q4 q5 q6 q7 x0 x1 x2 x3 x4
     refine HAP.out.mono ?_
     rintro e w6 ⟨⟨z, rfl, hst6⟩, hb6⟩
     obtain ⟨w7, hw7⟩ : ∃ v, v = w6.alloc (.cells #[.int .i64 t.node, .int .i64 t.nodes, .int .i64 t.cells, .int .i64 t.epoch, .slice z.P t.places.length z.p, .slice z.Q t.prep.length z.q, .slice z.D t.dec.length z.d, .slice z.C t.com.length z.c] 32) := ⟨_, rfl⟩
     have hb7 : Below w6.heap.size w6 w7 := by rw [hw7]; exact below_alloc _ _
     have hb67 : Below wy.heap.size wy w7 := hb6.trans (hb7.mono hb6.size)
     have HN7 : Hid (Inn W w7 s t y z p lay b7 wr.heap.size w6.heap.size) := Lib.hid ⟨HOY.out.later hb67, HCP.out.later hb67, HTY.out.later hb67, by rw [hw7]; exact cells_new _ _ _ _ rfl, hst6.sees.later hb7⟩
     have hc6 := HCP.out.later hb6
     have x3 := hc6.cell (j := 3) rfl
     have hlt6 := hc6.lt
     clear hb67 hb7 hb6 hst6 HOY HCP HTY hc6 HAP
     obtain ⟨mi, hmi⟩ : ∃ n, p.items.length = n := ⟨_, rfl⟩
     have HMI := Lib.hid hmi
     have HPI : Hid (mi ≤ 1000) := Lib.hid (by have := HPL.out.1; omega)
     rw [hmi] at x3 ⊢
     have hmib : mi ≤ 1000 := HPI.out
     clear hmi
     go_wp2_with fail
     rw [← hw7]
     clear hw7 x3 hlt6
     obtain ⟨bt, hbt⟩ : ∃ b, w6.heap.size = b := ⟨_, rfl⟩
     obtain ⟨bp, hbp⟩ : ∃ b, wr.heap.size = b := ⟨_, rfl⟩
     rw [hbt, hbp] at HN7
     rw [hbt, hbp]
     clear hbt hbp
     go_loopw [52] (fun i wi => ∃ j : Nat, j ≤ mi ∧ i = .int .i64 (j : Int) ∧ Hid (Inn W wi s t y z p lay b7 bp bt)) (fun i _ => mi - (intOf i).toNat)
     case atStart => exact ⟨0, Nat.zero_le _, rfl, HN7⟩
     case round =>
      obtain ⟨j, hj, rfl, HN⟩ := hrel
      clear HN7
      by_cases hjt : j < mi
      ·have hjl : j < p.items.length := by have := HMI.out; omega
       obtain ⟨ib, io, hA, hit⟩ := HN.out.two.1 j hjl
       have hfr := HFN.out.free p.items[j] (List.getElem_mem hjl)
       have hha := HFN.out.has p.items[j] (List.getElem_mem hjl)
       have hwr := HFN.out.wrote p.items[j] (List.getElem_mem hjl)
       have hsm := HFN.out.same p.items[j] (List.getElem_mem hjl)
       obtain ⟨x, hx⟩ : ∃ x, p.items[j] = x := ⟨_, rfl⟩
       rw [hx] at hit hfr hha hwr hsm
       have HFR := Lib.hid hfr
       have HHA := Lib.hid hha
       have HWR := Lib.hid hwr
       have HSA := Lib.hid hsm
       clear hfr hha hwr hsm hx hjl
       obtain ⟨i0, i1, i2, i3, i4⟩ := hit
       have hha := (hasC_iff s x.cell).1 HHA.out
       obtain ⟨cn, hcn⟩ : ∃ cn : Nat, x.cell = (cn : Int) := ⟨x.cell.toNat, by omega⟩
       have hcs : cn < s.places.length := by omega
       have hct : cn < t.places.length := by rw [HFN.out.len]; exact hcs
       have hps := plAt_nat s hcs
       have hpt := plAt_nat t hct
       rw [← hcn] at hps hpt
       obtain ⟨pb, po, hP, y0, y1, y2, y3, y4⟩ := place_cells HN.out.out.sees.places hcs
       obtain ⟨zb, zo, hZ, z0, z1, z2, z3, z4⟩ := place_cells HN.out.sees.places hct
       rw [← hps] at y0 y1 y2 y3 y4
       rw [← hpt] at z0 z1 z2 z3 z4
       obtain ⟨P1, hP1⟩ : ∃ q, plAt s x.cell = q := ⟨_, rfl⟩
       obtain ⟨P2, hP2⟩ : ∃ q, plAt t x.cell = q := ⟨_, rfl⟩
       rw [hP1] at y0 y1 y2 y3 y4 HWR HSA
       rw [hP2] at z0 z1 z2 z3 z4 HWR HSA
       clear hps hpt hP1 hP2 hha
       rw [hcn] at i0 HFR
       obtain ⟨wb, hwb⟩ : ∃ v, v = wr.alloc (.cells #[.int .i64 (cn : Int), .int .i64 x.version, .int .i64 x.value, .bool x.write, .int .i64 x.new] 57) := ⟨_, rfl⟩
       have hbi : Below wr.heap.size wr wb := by rw [hwb]; exact below_alloc _ _
       have HNI := Lib.hid (HN.out.later hbi)
       have HCI : Hid (Cells wb wr.heap.size 57 [.int .i64 (cn : Int), .int .i64 x.version, .int .i64 x.value, .bool x.write, .int .i64 x.new]) := Lib.hid (by rw [hwb]; exact cells_new _ _ _ _ rfl)
       have HV : Hid (wb.cell? ⟨pb, po + cn * 5, none⟩ = some (.int .i64 P1.status) ∧ wb.cell? ⟨pb, po + cn * 5 + 1, none⟩ = some (.int .i64 P1.hop) ∧ wb.cell? ⟨pb, po + cn * 5 + 2, none⟩ = some (.int .i64 P1.to) ∧ wb.cell? ⟨pb, po + cn * 5 + 3, none⟩ = some (.int .i64 P1.version) ∧ wb.cell? ⟨pb, po + cn * 5 + 4, none⟩ = some (.int .i64 P1.value)) := Lib.hid ⟨lowc hbi y0, lowc hbi y1, lowc hbi y2, lowc hbi y3, lowc hbi y4⟩
       have HU : Hid (wb.cell? ⟨zb, zo + cn * 5, none⟩ = some (.int .i64 P2.status) ∧ wb.cell? ⟨zb, zo + cn * 5 + 1, none⟩ = some (.int .i64 P2.hop) ∧ wb.cell? ⟨zb, zo + cn * 5 + 2, none⟩ = some (.int .i64 P2.to) ∧ wb.cell? ⟨zb, zo + cn * 5 + 3, none⟩ = some (.int .i64 P2.version) ∧ wb.cell? ⟨zb, zo + cn * 5 + 4, none⟩ = some (.int .i64 P2.value)) := Lib.hid ⟨lowc hbi z0, lowc hbi z1, lowc hbi z2, lowc hbi z3, lowc hbi z4⟩
       have HCS := Lib.hid hcs
       have HCT := Lib.hid hct
       clear y0 y1 y2 y3 y4 z0 z1 z2 z3 z4 hcs hct hbi
       simp only [hA]
       go_upto_region 17 with (fail)
       rw [← hwb]
       clear hwb i0 i1 i2 i3 i4
       have q4 := HNI.out.out.box.cell (j := 4) rfl
       have r4 := HNI.out.box.cell (j := 4) rfl
       rw [hP] at q4
       rw [hZ] at r4
       have HQ4 := Lib.hid q4
       have HR4 := Lib.hid r4
       obtain ⟨bi, hbi⟩ : ∃ b, wr.heap.size = b := ⟨_, rfl⟩
       rw [hbi] at HCI ⊢
       have HC0 := Lib.hid (HCI.out.cell (j := 0) rfl)
       clear hA hP hZ hbi q4 r4
       refine Reg.region_inv (by kernel_rfl) (fun i => ([some (.pointer (some ⟨b7, 4, none⟩)), some (.slice (some ⟨pb, po, none⟩) s.places.length y.p), some (.pointer (some ⟨bi, 0, none⟩)), some (.int .i64 (cn : Int)), some (.pointer (some ⟨pb, po + cn * 5, none⟩)), some (.agg #[.int .i64 P1.status, .int .i64 P1.hop, .int .i64 P1.to, .int .i64 P1.version, .int .i64 P1.value]), some (.pointer (some ⟨bt, 4, none⟩)), some (.slice (some ⟨zb, zo, none⟩) t.places.length z.p), some (.pointer (some ⟨bi, 0, none⟩)), some (.int .i64 (cn : Int)), some (.pointer (some ⟨zb, zo + cn * 5, none⟩)), some (.agg #[.int .i64 P2.status, .int .i64 P2.hop, .int .i64 P2.to, .int .i64 P2.version, .int .i64 P2.value]), none, none, none, none] : List (Option Value)).getD i none) (fun D V W => PlSt wb P1 P2 (D 12) (D 13) (D 14) (D 15) (V 12) (V 13) W) (fun V => [(some 56, V 0), (some 57, V 1), (some 58, V 2), (some 59, V 3), (some 60, V 4), (some 61, V 5), (some 62, V 6), (some 63, V 7), (some 64, V 8), (some 65, V 9), (some 66, V 10), (some 67, V 11), (some 15, V 12), (some 16, V 13), (none, V 14), (none, V 15)]) (by kernel_rfl) (by kernel_rfl) (fun V => rfl) ?_ ?_ ?_
       ·intro V
        exact PlSt.start (Below.refl _ _).drew _ _
       ·intro i o ho
        have hi : i < 16 := (Array.getElem?_eq_some_iff.1 ho).1
        rcases i with _ | _ | _ | _ | _ | _ | _ | _ | _ | _ | _ | _ | _ | _ | _ | _ | i
        ·obtain rfl := Option.some.inj ho
         intro D V ρ wi hE hI hDi hT hF hs hd hk
         replace hI : PlSt wb P1 P2 (D 12) (D 13) (D 14) (D 15) (V 12) (V 13) wi := hI
         have e7 : ρ (.tmp 7) = .pointer (some ⟨b7, 0, none⟩) := hs 7 (by kernel_rfl)
         clear hT hF hk
         exact Reg.Gives.value (v := .pointer (some ⟨b7, 4, none⟩)) (w' := wi) (by go_simp) ⟨fun x h => Option.some.inj h, hI⟩
        ·obtain rfl := Option.some.inj ho
         intro D V ρ wi hE hI hDi hT hF hs hd hk
         replace hI : PlSt wb P1 P2 (D 12) (D 13) (D 14) (D 15) (V 12) (V 13) wi := hI
         have e56 : ρ (.tmp 56) = .pointer (some ⟨b7, 4, none⟩) := (hd 0 56 (by kernel_rfl) (by kernel_rfl) (by show _ < 133; decide)).trans (hk 0 (by kernel_rfl) _ rfl)
         clear hT hF hk
         have hx := lowc hI.low HQ4.out
         exact Reg.Gives.value (v := .slice (some ⟨pb, po, none⟩) s.places.length y.p) (w' := wi) (by go_simp) ⟨fun x h => Option.some.inj h, hI⟩
        ·obtain rfl := Option.some.inj ho
         intro D V ρ wi hE hI hDi hT hF hs hd hk
         replace hI : PlSt wb P1 P2 (D 12) (D 13) (D 14) (D 15) (V 12) (V 13) wi := hI
         have e14 : ρ (.tmp 14) = .pointer (some ⟨bi, 0, none⟩) := hs 14 (by kernel_rfl)
         clear hT hF hk
         exact Reg.Gives.value (v := .pointer (some ⟨bi, 0, none⟩)) (w' := wi) (by go_simp) ⟨fun x h => Option.some.inj h, hI⟩
        ·obtain rfl := Option.some.inj ho
         intro D V ρ wi hE hI hDi hT hF hs hd hk
         replace hI : PlSt wb P1 P2 (D 12) (D 13) (D 14) (D 15) (V 12) (V 13) wi := hI
         have e58 : ρ (.tmp 58) = .pointer (some ⟨bi, 0, none⟩) := (hd 2 58 (by kernel_rfl) (by kernel_rfl) (by show _ < 133; decide)).trans (hk 2 (by kernel_rfl) _ rfl)
         clear hT hF hk
         have hx := lowc hI.low HC0.out
         exact Reg.Gives.value (v := .int .i64 (cn : Int)) (w' := wi) (by go_simp) ⟨fun x h => Option.some.inj h, hI⟩
        ·obtain rfl := Option.some.inj ho
         intro D V ρ wi hE hI hDi hT hF hs hd hk
         replace hI : PlSt wb P1 P2 (D 12) (D 13) (D 14) (D 15) (V 12) (V 13) wi := hI
         have e57 : ρ (.tmp 57) = .slice (some ⟨pb, po, none⟩) s.places.length y.p := (hd 1 57 (by kernel_rfl) (by kernel_rfl) (by show _ < 133; decide)).trans (hk 1 (by kernel_rfl) _ rfl)
         have e59 : ρ (.tmp 59) = .int .i64 (cn : Int) := (hd 3 59 (by kernel_rfl) (by kernel_rfl) (by show _ < 133; decide)).trans (hk 3 (by kernel_rfl) _ rfl)
         clear hT hF hk
         have hx := HCS.out
         exact Reg.Gives.value (v := .pointer (some ⟨pb, po + cn * 5, none⟩)) (w' := wi) (by go_simp) ⟨fun x h => Option.some.inj h, hI⟩
        ·obtain rfl := Option.some.inj ho
         intro D V ρ wi hE hI hDi hT hF hs hd hk
         replace hI : PlSt wb P1 P2 (D 12) (D 13) (D 14) (D 15) (V 12) (V 13) wi := hI
         have e60 : ρ (.tmp 60) = .pointer (some ⟨pb, po + cn * 5, none⟩) := (hd 4 60 (by kernel_rfl) (by kernel_rfl) (by show _ < 133; decide)).trans (hk 4 (by kernel_rfl) _ rfl)
         clear hT hF hk
         have hx0 := lowc hI.low HV.out.1
         have hx1 := lowc hI.low HV.out.2.1
         have hx2 := lowc hI.low HV.out.2.2.1
         have hx3 := lowc hI.low HV.out.2.2.2.1
         have hx4 := lowc hI.low HV.out.2.2.2.2
         exact Reg.Gives.value (v := .agg #[.int .i64 P1.status, .int .i64 P1.hop, .int .i64 P1.to, .int .i64 P1.version, .int .i64 P1.value]) (w' := wi) (by go_simp) ⟨fun x h => Option.some.inj h, hI⟩
        ·obtain rfl := Option.some.inj ho
         intro D V ρ wi hE hI hDi hT hF hs hd hk
         replace hI : PlSt wb P1 P2 (D 12) (D 13) (D 14) (D 15) (V 12) (V 13) wi := hI
         have e11 : ρ (.tmp 11) = .pointer (some ⟨bt, 0, none⟩) := hs 11 (by kernel_rfl)
         clear hT hF hk
         exact Reg.Gives.value (v := .pointer (some ⟨bt, 4, none⟩)) (w' := wi) (by go_simp) ⟨fun x h => Option.some.inj h, hI⟩
        ·obtain rfl := Option.some.inj ho
         intro D V ρ wi hE hI hDi hT hF hs hd hk
         replace hI : PlSt wb P1 P2 (D 12) (D 13) (D 14) (D 15) (V 12) (V 13) wi := hI
         have e62 : ρ (.tmp 62) = .pointer (some ⟨bt, 4, none⟩) := (hd 6 62 (by kernel_rfl) (by kernel_rfl) (by show _ < 133; decide)).trans (hk 6 (by kernel_rfl) _ rfl)
         clear hT hF hk
         have hx := lowc hI.low HR4.out
         exact Reg.Gives.value (v := .slice (some ⟨zb, zo, none⟩) t.places.length z.p) (w' := wi) (by go_simp) ⟨fun x h => Option.some.inj h, hI⟩
        ·obtain rfl := Option.some.inj ho
         intro D V ρ wi hE hI hDi hT hF hs hd hk
         replace hI : PlSt wb P1 P2 (D 12) (D 13) (D 14) (D 15) (V 12) (V 13) wi := hI
         have e14 : ρ (.tmp 14) = .pointer (some ⟨bi, 0, none⟩) := hs 14 (by kernel_rfl)
         clear hT hF hk
         exact Reg.Gives.value (v := .pointer (some ⟨bi, 0, none⟩)) (w' := wi) (by go_simp) ⟨fun x h => Option.some.inj h, hI⟩
        ·obtain rfl := Option.some.inj ho
         intro D V ρ wi hE hI hDi hT hF hs hd hk
         replace hI : PlSt wb P1 P2 (D 12) (D 13) (D 14) (D 15) (V 12) (V 13) wi := hI
         have e64 : ρ (.tmp 64) = .pointer (some ⟨bi, 0, none⟩) := (hd 8 64 (by kernel_rfl) (by kernel_rfl) (by show _ < 133; decide)).trans (hk 8 (by kernel_rfl) _ rfl)
         clear hT hF hk
         have hx := lowc hI.low HC0.out
         exact Reg.Gives.value (v := .int .i64 (cn : Int)) (w' := wi) (by go_simp) ⟨fun x h => Option.some.inj h, hI⟩
        ·obtain rfl := Option.some.inj ho
         intro D V ρ wi hE hI hDi hT hF hs hd hk
         replace hI : PlSt wb P1 P2 (D 12) (D 13) (D 14) (D 15) (V 12) (V 13) wi := hI
         have e63 : ρ (.tmp 63) = .slice (some ⟨zb, zo, none⟩) t.places.length z.p := (hd 7 63 (by kernel_rfl) (by kernel_rfl) (by show _ < 133; decide)).trans (hk 7 (by kernel_rfl) _ rfl)
         have e65 : ρ (.tmp 65) = .int .i64 (cn : Int) := (hd 9 65 (by kernel_rfl) (by kernel_rfl) (by show _ < 133; decide)).trans (hk 9 (by kernel_rfl) _ rfl)
         clear hT hF hk
         have hx := HCT.out
         exact Reg.Gives.value (v := .pointer (some ⟨zb, zo + cn * 5, none⟩)) (w' := wi) (by go_simp) ⟨fun x h => Option.some.inj h, hI⟩
        ·obtain rfl := Option.some.inj ho
         intro D V ρ wi hE hI hDi hT hF hs hd hk
         replace hI : PlSt wb P1 P2 (D 12) (D 13) (D 14) (D 15) (V 12) (V 13) wi := hI
         have e66 : ρ (.tmp 66) = .pointer (some ⟨zb, zo + cn * 5, none⟩) := (hd 10 66 (by kernel_rfl) (by kernel_rfl) (by show _ < 133; decide)).trans (hk 10 (by kernel_rfl) _ rfl)
         clear hT hF hk
         have hx0 := lowc hI.low HU.out.1
         have hx1 := lowc hI.low HU.out.2.1
         have hx2 := lowc hI.low HU.out.2.2.1
         have hx3 := lowc hI.low HU.out.2.2.2.1
         have hx4 := lowc hI.low HU.out.2.2.2.2
         exact Reg.Gives.value (v := .agg #[.int .i64 P2.status, .int .i64 P2.hop, .int .i64 P2.to, .int .i64 P2.version, .int .i64 P2.value]) (w' := wi) (by go_simp) ⟨fun x h => Option.some.inj h, hI⟩
        ·obtain rfl := Option.some.inj ho
         intro D V ρ wi hE hI hDi hT hF hs hd hk
         replace hI : PlSt wb P1 P2 (D 12) (D 13) (D 14) (D 15) (V 12) (V 13) wi := hI
         have hD12 : D 12 = false := hDi
         have hD14 : D 14 = false := hF 1 14 (by show _ < 16; decide) (by kernel_rfl)
         have hD15 : D 15 = false := hF 1 15 (by show _ < 16; decide) (by kernel_rfl)
         clear hT hF
         rw [hD12, hD14] at hI
         exact Reg.Gives.value (v := .pointer (some ⟨wi.heap.size, 0, none⟩)) (w' := wi.alloc (.cells #[.int .i64 0, .int .i64 0, .int .i64 0, .int .i64 0, .int .i64 0] 51)) (by go_simp) ⟨fun x h => (by cases h), by show PlSt wb P1 P2 true (D 13) (D 14) (D 15) _ (V 13) _; rw [hD14]; exact hI.alloc1⟩
        ·obtain rfl := Option.some.inj ho
         intro D V ρ wi hE hI hDi hT hF hs hd hk
         replace hI : PlSt wb P1 P2 (D 12) (D 13) (D 14) (D 15) (V 12) (V 13) wi := hI
         have hD13 : D 13 = false := hDi
         have hD14 : D 14 = false := hF 1 14 (by show _ < 16; decide) (by kernel_rfl)
         have hD15 : D 15 = false := hF 1 15 (by show _ < 16; decide) (by kernel_rfl)
         clear hT hF
         rw [hD13, hD15] at hI
         exact Reg.Gives.value (v := .pointer (some ⟨wi.heap.size, 0, none⟩)) (w' := wi.alloc (.cells #[.int .i64 0, .int .i64 0, .int .i64 0, .int .i64 0, .int .i64 0] 51)) (by go_simp) ⟨fun x h => (by cases h), by show PlSt wb P1 P2 (D 12) true (D 14) (D 15) (V 12) _ _; rw [hD15]; exact hI.alloc2⟩
        ·obtain rfl := Option.some.inj ho
         intro D V ρ wi hE hI hDi hT hF hs hd hk
         replace hI : PlSt wb P1 P2 (D 12) (D 13) (D 14) (D 15) (V 12) (V 13) wi := hI
         have e15 : ρ (.tmp 15) = V 12 := hd 12 15 (by kernel_rfl) (by kernel_rfl) (by show _ < 133; decide)
         have e61 : ρ (.tmp 61) = .agg #[.int .i64 P1.status, .int .i64 P1.hop, .int .i64 P1.to, .int .i64 P1.version, .int .i64 P1.value] := (hd 5 61 (by kernel_rfl) (by kernel_rfl) (by show _ < 133; decide)).trans (hk 5 (by kernel_rfl) _ rfl)
         have hD12 : D 12 = true := hT 1 12 (by kernel_rfl)
         have hD13 : D 13 = true := hT 1 13 (by kernel_rfl)
         have hD14 : D 14 = false := hDi
         have hD15 : D 15 = false := hF 1 15 (by show _ < 16; decide) (by kernel_rfl)
         clear hT hF
         rw [hD12, hD14] at hI
         obtain ⟨g, f1, f2, f3⟩ := hI.put1
         exact Reg.Gives.skip (w' := wi.setCells g 0 P1.vals) (exec_store 51 _ _ rfl g 0 #[.int .i64 P1.status, .int .i64 P1.hop, .int .i64 P1.to, .int .i64 P1.version, .int .i64 P1.value] (e15.trans f1) e61 (run_storeVar_mid _ g 0 51 #[.int .i64 P1.status, .int .i64 P1.hop, .int .i64 P1.to, .int .i64 P1.version, .int .i64 P1.value] f2 (by kernel_rfl) (by simp [Value.oneCell']))) ⟨fun x h => (by cases h), by show PlSt wb P1 P2 (D 12) (D 13) true (D 15) (V 12) (V 13) _; rw [hD12]; exact f3⟩
        ·obtain rfl := Option.some.inj ho
         intro D V ρ wi hE hI hDi hT hF hs hd hk
         replace hI : PlSt wb P1 P2 (D 12) (D 13) (D 14) (D 15) (V 12) (V 13) wi := hI
         have e16 : ρ (.tmp 16) = V 13 := hd 13 16 (by kernel_rfl) (by kernel_rfl) (by show _ < 133; decide)
         have e67 : ρ (.tmp 67) = .agg #[.int .i64 P2.status, .int .i64 P2.hop, .int .i64 P2.to, .int .i64 P2.version, .int .i64 P2.value] := (hd 11 67 (by kernel_rfl) (by kernel_rfl) (by show _ < 133; decide)).trans (hk 11 (by kernel_rfl) _ rfl)
         have hD12 : D 12 = true := hT 1 12 (by kernel_rfl)
         have hD13 : D 13 = true := hT 1 13 (by kernel_rfl)
         have hD14 : D 14 = true := hT 1 14 (by kernel_rfl)
         have hD15 : D 15 = false := hDi
         clear hT hF
         rw [hD13, hD15] at hI
         obtain ⟨g, f1, f2, f3⟩ := hI.put2
         exact Reg.Gives.skip (w' := wi.setCells g 0 P2.vals) (exec_store 51 _ _ rfl g 0 #[.int .i64 P2.status, .int .i64 P2.hop, .int .i64 P2.to, .int .i64 P2.version, .int .i64 P2.value] (e16.trans f1) e67 (run_storeVar_mid _ g 0 51 #[.int .i64 P2.status, .int .i64 P2.hop, .int .i64 P2.to, .int .i64 P2.version, .int .i64 P2.value] f2 (by kernel_rfl) (by simp [Value.oneCell']))) ⟨fun x h => (by cases h), by show PlSt wb P1 P2 (D 12) (D 13) (D 14) true (V 12) (V 13) _; rw [hD13]; exact f3⟩
        ·omega
       ·intro V wz hk hI
        simp only [Reg.putsO, List.foldl_cons, List.foldl_nil, Act.put, List.setIfInBounds_toArray, List.set_cons_succ, List.set_cons_zero]
        replace hI : PlSt wb P1 P2 true true true true (V 12) (V 13) wz := hI
        clear hk
        obtain ⟨g1, f1, _, d1⟩ := hI.one rfl
        obtain ⟨g2, f2, _, d2⟩ := hI.two rfl
        simp only [cond_true] at d1 d2
        have HNZ := Lib.hid (HNI.out.later hI.low)
        have HCZ := Lib.hid (HCI.out.later hI.low)
        have HD1 := Lib.hid d1
        have HD2 := Lib.hid d2
        rw [f1, f2]
        clear hI f1 f2 d1 d2 HNI HCI HV HU HQ4 HR4 HC0 HCS HCT
        have HLK := Lib.hid (Locked_any t z (cn : Int) wz HNZ.out.sees ⟨by have := HTZ.out.prep; have := HSM.out.1; omega, fun q hq => Nat.le_trans (HTZ.out.pin q hq).1 (by decide)⟩)
        rw [HFR.out] at HLK
        unfold St.val at HLK
        have hr := HNZ.out.box
        unfold St.vals at hr
        have r0 := hr.cell (j := 0) rfl
        have r1 := hr.cell (j := 1) rfl
        have r2 := hr.cell (j := 2) rfl
        have r3 := hr.cell (j := 3) rfl
        have r4 := hr.cell (j := 4) rfl
        have r5 := hr.cell (j := 5) rfl
        have r6 := hr.cell (j := 6) rfl
        have r7 := hr.cell (j := 7) rfl
        have c0 := HCZ.out.cell (j := 0) rfl
        clear hr
        go_wp2_with fail
        clear r0 r1 r2 r3 r4 r5 r6 r7 c0
        refine HLK.out.mono ?_
        rintro e w9 ⟨rfl, hb9⟩
        have HN9 := Lib.hid (HNZ.out.later hb9)
        have hc9 := HCZ.out.later hb9
        have a1 := HD1.out.later hb9
        have a2 := HD2.out.later hb9
        have c3 := hc9.cell (j := 3) rfl
        have c4 := hc9.cell (j := 4) rfl
        clear HNZ HCZ HD1 HD2 HLK hb9 hc9
        obtain ⟨wv, hwv⟩ : ∃ b, x.write = b := ⟨_, rfl⟩
        rw [hwv] at c3 HWR HSA
        clear hwv
        have hcase : (yes = true ∧ wv = true) ∨ ¬ (yes = true ∧ wv = true) := Decidable.em _
        rcases hcase with hyw | hyw
        ·obtain ⟨h1, h2⟩ := HWR.out hyw.1 hyw.2
         obtain ⟨rfl, rfl⟩ := hyw
         have s3 := a1.cell (j := 3) rfl
         have t3 := a2.cell (j := 3) rfl
         have t4 := a2.cell (j := 4) rfl
         rw [h1] at t3
         rw [h2] at t4
         clear h1 h2 a1 a2 HWR HSA
         go_wp2_with fail
         go_roundw
         case rel => exact ⟨j + 1, by omega, by go_num, HN9⟩
         case measure => simp [intOf]; omega
        ·have hpq := HSA.out hyw
         subst hpq
         have hne := place_neq P2.status P2.hop P2.to P2.version P2.value
         have s0 := a1.cell (j := 0) rfl
         have s1 := a1.cell (j := 1) rfl
         have s2 := a1.cell (j := 2) rfl
         have s3 := a1.cell (j := 3) rfl
         have s4 := a1.cell (j := 4) rfl
         have t0 := a2.cell (j := 0) rfl
         have t1 := a2.cell (j := 1) rfl
         have t2 := a2.cell (j := 2) rfl
         have t3 := a2.cell (j := 3) rfl
         have t4 := a2.cell (j := 4) rfl
         clear a1 a2 HWR HSA
         cases yes with
         | false =>
          clear hyw
          go_wp2_with fail
          go_roundw
          case rel => exact ⟨j + 1, by omega, by go_num, HN9⟩
          case measure => simp [intOf]; omega
         | true =>
          obtain rfl : wv = false := by cases wv with | true => exact absurd ⟨rfl, rfl⟩ hyw | false => rfl
          clear hyw
          go_wp2_with fail
          go_roundw
          case rel => exact ⟨j + 1, by omega, by go_num, HN9⟩
          case measure => simp [intOf]; omega
      ·have HFD := Lib.hid (Find_dec t z p.tid wr HN.out.sees (by have := HTZ.out.dec; have := HSM.out.1; omega))
       obtain ⟨i, hi, hat, hyy⟩ := HFN.out.dec
       rw [hat] at HFD
       have hneg := HFN.out.prep
       obtain ⟨db, dof, hD, hdr⟩ := HN.out.sees.dec i (by rw [List.length_map]; exact hi)
       rw [List.getElem_map] at hdr
       have hd3 : wr.cell? ⟨db, dof + i * 4 + 3, none⟩ = some (.bool t.dec[i].yes) := hdr 3 _ rfl
       rw [hyy] at hd3
       obtain ⟨ap, hap⟩ : ∃ a, at_prep t p.tid = a := ⟨_, rfl⟩
       rw [hap] at hneg
       have HAP := Lib.hid hap
       have HD3 := Lib.hid hd3
       have HDQ := Lib.hid hD
       clear hat hyy hdr hd3 hap hD
       unfold St.val Tid.val at HFD
       have hr := HN.out.box
       have hp := HN.out.prep
       unfold St.vals at hr
       unfold Pr.vals at hp
       have r0 := hr.cell (j := 0) rfl
       have r1 := hr.cell (j := 1) rfl
       have r2 := hr.cell (j := 2) rfl
       have r3 := hr.cell (j := 3) rfl
       have r4 := hr.cell (j := 4) rfl
       have r5 := hr.cell (j := 5) rfl
       have r6 := hr.cell (j := 6) rfl
       have r7 := hr.cell (j := 7) rfl
       have p0 := hp.cell (j := 0) rfl
       have p1 := hp.cell (j := 1) rfl
       have p2 := hp.cell (j := 2) rfl
       clear hr hp
       go_wp2_with fail
       clear r0 r1 r2 r3 r4 r5 r6 r7 p0 p1 p2
       refine HFD.out.mono ?_
       rintro e w8 ⟨rfl, hb8⟩
       have HN8 := Lib.hid (HN.out.later hb8)
       have hd3 := lowc hb8 HD3.out
       have HFP := Lib.hid (Find_prep t z p.tid w8 HN8.out.sees (by have := HTZ.out.prep; have := HSM.out.1; omega))
       rw [HAP.out] at HFP
       unfold St.val Tid.val at HFP
       have hr := HN8.out.box
       have hp := HN8.out.prep
       unfold St.vals at hr
       unfold Pr.vals at hp
       have r0 := hr.cell (j := 0) rfl
       have r1 := hr.cell (j := 1) rfl
       have r2 := hr.cell (j := 2) rfl
       have r3 := hr.cell (j := 3) rfl
       have r4 := hr.cell (j := 4) rfl
       have r5 := hr.cell (j := 5) rfl
       have r6 := hr.cell (j := 6) rfl
       have r7 := hr.cell (j := 7) rfl
       have p0 := hp.cell (j := 0) rfl
       have p1 := hp.cell (j := 1) rfl
       have p2 := hp.cell (j := 2) rfl
       rw [HDQ.out] at r6
       rw [HDQ.out] at HFP
       clear hr hp HFD HN HD3 HAP HDQ hb8
       have hii : ¬ (i : Int) < 0 := by omega
       go_wp2_with fail
       clear r0 r1 r2 r3 r4 r5 r6 r7 p0 p1 p2
       refine HFP.out.mono ?_
       rintro e w9 ⟨rfl, hb9⟩
       have HO9 := Lib.hid ((HN8.out.later hb9).out)
       clear HFP HN8 hb9 hd3
       go_wp2_with fail
       go_roundw
       case rel => exact ⟨k + 1, by omega, by go_num, HO9⟩
       case measure => simp [intOf]; omega
    ·go_wp2_with fail
     go_returns
     exact ⟨rfl, HO.out.low⟩

theorem opened {H : Type} {enc : TypeId × Value → H} {W : World} {base : Nat} {gs : List (DataW H)} (v0 : Value) (d0 : DataW H) (p0 : List MemPlace) (v1 : Value) (d1 : DataW H) (p1 : List MemPlace) (v2 : Value) (d2 : DataW H) (p2 : List MemPlace)
  (o0 : Value.okWide Try.prog W .any base 23 v0) (t0 : DataW.Trod enc Try.prog W 0 (fun _ => true) true 23 v0 d0 p0)
  (o1 : Value.okWide Try.prog W .any base 24 v1) (t1 : DataW.Trod enc Try.prog W 0 (fun _ => true) true 24 v1 d1 p1)
  (o2 : Value.okWide Try.prog W .any base 4 v2) (t2 : DataW.Trod enc Try.prog W 0 (fun _ => true) true 4 v2 d2 p2)
  (_hsz : (DataW.weightsEach Try.prog ([23, 24, 4] ++ []) ([d0, d1, d2] ++ gs)).all (· ≤ reachBytes) = true) :
  Calls Try.prog 4 #[v0, v1, v2] W fun e W' => e = .returned (.bool true) ∧ Below W.heap.size W W' := by
 obtain ⟨b1, b2, b3, rfl, _, _, _⟩ := open_begin o0 t0
 obtain ⟨A, l, zs, cap, rfl, hr, hl, hs, _⟩ := open_recs o1 t1
 obtain ⟨b, rfl⟩ := okWide_bool Try.underlying4 o2
 exact walk b1 b2 b3 A l zs cap b W hr hl fun r h => (hs r h).2

theorem contract (H : Type) (enc : TypeId × Value → H) (W : World) (base : Nat) (args : Array Value) (ds gs : List (DataW H)) (before : List MemPlace)
  (hval : ∀ (j : Nat) t v, Try.f4.params[j]? = some t → args[j]? = some v → Value.okWide Try.prog W .any base t v)
  (hW : DataW.Whole enc Try.prog Try.f4.params.toList Rows.ledgerFinishesSpec.vars false W args.toList ds gs before)
  (hsz : (DataW.weightsEach Try.prog (Try.f4.params.toList ++ []) (ds ++ gs)).all (· ≤ reachBytes) = true) :
  Calls Try.prog 4 args W fun e W' => ∃ v, e = .returned v ∧ Rows.ledgerFinishesSpec.post enc Try.prog Try.f4 false true false false W args v W' := by
 have hW0 := hW
 obtain ⟨p, q, hA0, hV, rfl, _, _⟩ := hW
 have hA : DataW.TrodAll enc Try.prog W 0 (fun _ => true) true Try.f4.params.toList args.toList ds p := hA0
 rw [Try.params4] at hA hval hsz
 obtain ⟨v0, vs0, d0, ds0, p0, q0, hargs, rfl, rfl, h0, r0⟩ := trodAll_cons hA
 obtain ⟨v1, vs1, d1, ds1, p1, q1, rfl, rfl, rfl, h1, r1⟩ := trodAll_cons r0
 obtain ⟨v2, vs2, d2, ds2, p2, q2, rfl, rfl, rfl, h2, r2⟩ := trodAll_cons r1
 obtain ⟨rfl, rfl, rfl⟩ := trodAll_nil r2
 obtain rfl : args = #[v0, v1, v2] := by cases args; simp_all
 refine (opened v0 d0 p0 v1 d1 p1 v2 d2 p2 (hval 0 23 v0 rfl rfl) h0 (hval 1 24 v1 rfl rfl) h1 (hval 2 4 v2 rfl rfl) h2 hsz).mono fun e W' ⟨he, hb⟩ => ⟨_, he, ?_⟩
 exact Base.law_post (tb := 4) Base.laidOut (by kernel_rfl) rfl Try.underlying4 rfl (fun l hl => by
  rw [Try.params4] at hl
  match l, hl with
  | [_, _, _], _ => rfl) (by rw [Try.params4]; rfl) hW0 hb

theorem laid_met (os : Os) : laidMet Try.prog Rows.ledgerFinishesRow.laid ((Base.plainWorld os).forCall (fun _ _ => 0) ⟨#[], #[.agg #[.int .i64 0, .int .i64 0, .int .i64 0], .slice none 0 0, .bool false], []⟩).memory := laidMet_nil _ _
theorem reads (os : Os) {H : Type} (enc : TypeId × Value → H) : ∃ places, DataW.whole enc Try.prog ((Base.plainWorld os).forCall (fun _ _ => 0) ⟨#[], #[.agg #[.int .i64 0, .int .i64 0, .int .i64 0], .slice none 0 0, .bool false], []⟩).memory Try.f4.params.toList Rows.ledgerFinishesSpec.vars false (#[.agg #[.int .i64 0, .int .i64 0, .int .i64 0], .slice none 0 0, .bool false] : Array Value).toList 8 = some ([.agg [.lit (.int .i64 0), .lit (.int .i64 0), .lit (.int .i64 0)], .nil, .lit (.bool false)], [], places) :=
 ⟨[], by kernel_rfl⟩

set_option maxRecDepth 100000 in
theorem lifted (os : Os) (started : os.Started) (H : Type) (enc : TypeId × Value → H) (F : Stop.Interp) :
  ReturnsInHanded {} Try.checked os 4 .any ((OpenSpec.ofChange Rows.ledgerFinishesSpec).preRow enc Try.prog Try.f4 Rows.ledgerFinishesRow.domain false Rows.ledgerFinishesRow.laid) (((OpenSpec.ofChange Rows.ledgerFinishesSpec).at F).post enc Try.prog Try.f4 false true false false) := by
 obtain ⟨places, hx⟩ := reads os enc
 refine returnsInHanded_of_row (C := Try.checked) (s := OpenSpec.ofChange Rows.ledgerFinishesSpec) Base.own started (by kernel_rfl) Try.func4
  (witness_row_at (enc := enc) (C := Try.checked) false (Base.plainWorld os) #[.agg #[.int .i64 0, .int .i64 0, .int .i64 0], .slice none 0 0, .bool false] rfl (by kernel_rfl) (by kernel_rfl) (by kernel_rfl)
   (OpenSpec.preRow_of_cond 8 hx (by kernel_rfl) (fun k hk => by cases hk) (by kernel_rfl) (laid_met os))) ?_
 intro W base args ds gs before hval hW _ _ hsz _ _ _
 exact contract H enc W base args ds gs before hval hW hsz

theorem said : Rows.LedgerFinishesSaid :=
 OpenClaim.holds_of_cond 4 Try.f4 rfl rfl rfl rfl rfl rfl rfl ⟨rfl, rfl, rfl, rfl, rfl⟩ rfl rfl rfl rfl rfl (by kernel_rfl) Try.func4 (by kernel_rfl)
  (of_decide_eq_true (by kernel_rfl)) (by unfold Func.isWrapper; rw [if_neg (of_decide_eq_false (by kernel_rfl))]; exact ⟨rfl, rfl⟩)
  (fun os started H enc _ F => by rw [OpenClaim.pre_eq_preRow]; exact lifted os started H enc F)
#print axioms said
end Go.Proofs.Ytakeldpmfbahnaa.LedgerFinishes
