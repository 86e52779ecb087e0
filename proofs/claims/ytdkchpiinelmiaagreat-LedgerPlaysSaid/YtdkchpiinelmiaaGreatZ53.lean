/- Part 53 of the proof. Conditions: none. -/
import Derived.Test.YtdkchpiinelmiaaGreatZ51
namespace Go.Proofs.YtdkchpiinelmiaaGreat.Led
set_option maxRecDepth 100000
open Go.RowKit Go.Deep Mem fN Rec
set_option maxHeartbeats 4000000 in
theorem J6 {B0 : Nat} {w0 : World} {g2 g6 : Nat} {s : St} {y : Sy} {r : Rc} {z : Lay} (hk : r.kind = 9) : je [1, 1, 1, 1, 1, 1, 1, 1, 1, 1, 1, 1, 1, 1] B0 w0 g2 g6 s y r z := by
 intro wr h cc hc; iterate 546 intro _
 conv at hc => rhs; whnf
 subst hc; have aN := ak h; have q0 := h.dF.cell (j := 0) rfl; clear h; have HK := ak hk; have HB : Hid (aC s r = aV s r) := ak (bN aN.o.rt); rw [hk] at q0; clear hk; have HF : Hid (aC s r = vG s r) := ak (by rw [HB.o]; unfold aV; rw [HK.o]; rfl); obtain ⟨hc, vD⟩ := ah (bp s r.cell); have j_ := ak vD; rw [vD]; clear vD
 cases hc with
 | false =>
  have fJ : Hid ((aC s r).2 = 1) := ak (by rw [HF.o]; unfold vG; rw [if_pos j_.o])
  go_upto_region 106 with (fail)
  apply wp_region_lit
  refine Go.Great.wpList_runTo rfl (some 476) rfl (.agg ZA) wr (by go_simp) ?_; refine aA rfl 41 _ _ rfl (g2 + 2) ZA ZL rfl rfl rfl (aN.o.fi).res rfl (by kernel_rfl) (by simp [Value.oneCell']) fun w5 hpt hov => ?_
  have bU := ak hpt; have cj := ak hov; clear hpt hov
  go_wp2_with fail
  refine bodyPost_ret (v := .tuple #[.agg ZA, iv 1]) ((aI (p := 4) (q := 5) (ty := 41) (by rfl) _ bU.o _ (by rfl) Tryz.underlying41 rfl (by kernel_rfl)).trans (by rfl)) rfl ?_; exact bC (aN.o.fi) cj.o (fJ.o) (by decide)
 | true =>
  obtain ⟨pb, k, pl, hP, gH, hkl, hpl, hat⟩ := aN.o.fi.own.place j_.o; have HP := ak hP; have wN := ak gH; have wV := ak hkl; have lD := ak hat; have v0 := aN.o.fi.own.bg hP hpl (j := 0) rfl; have v1 := aN.o.fi.own.bg hP hpl (j := 1) rfl; have v2 := aN.o.fi.own.bg hP hpl (j := 2) rfl; have v3 := aN.o.fi.own.bg hP hpl (j := 3) rfl; have v4 := aN.o.fi.own.bg hP hpl (j := 4) rfl; rw [Nat.add_zero] at v0; obtain ⟨n, hn⟩ := ah s.places.length; have HN := ak hn; have hcs := aN.o.fi.own.br.cell (j := 4) rfl; rw [hP, hn] at hcs; have q9 := aN.o.dF.cell (j := 9) rfl; rw [gH] at q9; have z1 : (0 : Int) <= (k : Int) := by omega
  have z2 : (k : Int) < (n : Int) := by omega
  have z3 : k < n := by omega
  obtain ⟨wa, cM⟩ := aj (wr.alloc (.cells #[iv pl.status, iv pl.hop, iv pl.to, iv pl.version, iv pl.value] 69)); have hba : Below wr.heap.size wr wa := by rw [cM]; exact av _ _
  have rQ : Hid (Cells wa wr.heap.size 69 [iv pl.status, iv pl.hop, iv pl.to, iv pl.version, iv pl.value]) := ak (by rw [cM]; exact aB wr 69 _ _ rfl); have gG := ak hba; have iQ := ak (aN.o.later hba); obtain ⟨g, hg⟩ := ah wr.heap.size; have HG := ak hg; rw [hg] at rQ; clear hP gH hkl hpl hat hn hba
  go_upto_region 108 with (fail)
  rw [<- cM]
  try rw [hg]
  clear cM hg v0 v1 v2 v3 v4 hcs q9 z1 z2 z3 q0; have q0 := iQ.o.dF.cell (j := 0) rfl; rw [HK.o] at q0; have uN := iQ.o.dF.cell (j := 11) rfl; have p0 := rQ.o.cell (j := 0) rfl; have p1 := rQ.o.cell (j := 1) rfl
  by_cases hst : pl.status = 1
  ·have fJ : Hid ((aC s r).2 = 9) := ak (by
    rw [HF.o]; unfold vG; rw [if_neg (by rw [j_.o]; decide), if_pos (by unfold owns; rw [j_.o, lD.o, hst]; rfl)])
   go_upto_region 118 with (fail)
   apply wp_region_lit
   refine Go.Great.wpList_runTo rfl (some 515) rfl (.agg ZA) wa (by go_simp) ?_; refine aA rfl 41 _ _ rfl (g2 + 2) ZA ZL rfl rfl rfl (iQ.o.fi).res rfl (by kernel_rfl) (by simp [Value.oneCell']) fun w5 hpt hov => ?_
   have bU := ak hpt; have cj := ak hov; clear hpt hov
   go_wp2_with fail
   refine bodyPost_ret (v := .tuple #[.agg ZA, iv 9]) ((aI (p := 4) (q := 5) (ty := 41) (by rfl) _ bU.o _ (by rfl) Tryz.underlying41 rfl (by kernel_rfl)).trans (by rfl)) rfl ?_; exact bC (iQ.o.fi) cj.o (fJ.o) (by decide)
  have HST := ak hst
  by_cases hle : r.hop <= pl.hop
  ·have fJ : Hid ((aC s r).2 = 10) := ak (by
    rw [HF.o]; unfold vG; rw [if_neg (by rw [j_.o]; decide), if_neg (by unfold owns; rw [j_.o, lD.o, decide_eq_false HST.o]; decide), if_pos (by rw [lD.o]; exact hle)])
   go_upto_region 120 with (fail)
   apply wp_region_lit
   refine Go.Great.wpList_runTo rfl (some 521) rfl (.agg ZA) wa (by go_simp) ?_; refine aA rfl 41 _ _ rfl (g2 + 2) ZA ZL rfl rfl rfl (iQ.o.fi).res rfl (by kernel_rfl) (by simp [Value.oneCell']) fun w5 hpt hov => ?_
   have bU := ak hpt; have cj := ak hov; clear hpt hov
   go_wp2_with fail
   refine bodyPost_ret (v := .tuple #[.agg ZA, iv 10]) ((aI (p := 4) (q := 5) (ty := 41) (by rfl) _ bU.o _ (by rfl) Tryz.underlying41 rfl (by kernel_rfl)).trans (by rfl)) rfl ?_; exact bC (iQ.o.fi) cj.o (fJ.o) (by decide)
  have lC := ak hle
  have wP := iQ.o.dF.cell (j := 12) rfl; have Bc := iQ.o.dF.cell (j := 13) rfl
  go_upto_region 121 with (fail)
  apply wp_region_lit
  refine Go.Great.wpList_runTo rfl (some 522) rfl (.pointer (some ⟨g2 + 1, 11, none⟩)) wa (by go_simp) ?_; simp only [Act.put, List.setIfInBounds_toArray, List.set_cons_succ, List.set_cons_zero]; refine Go.Great.wpList_runTo rfl (some 523) rfl (iv r.hop) wa (by go_simp) ?_; simp only [Act.put, List.setIfInBounds_toArray, List.set_cons_succ, List.set_cons_zero]; refine Go.Great.wpList_runTo rfl (some 524) rfl (.pointer (some ⟨g2 + 1, 12, none⟩)) wa (by go_simp) ?_; simp only [Act.put, List.setIfInBounds_toArray, List.set_cons_succ, List.set_cons_zero]; refine Go.Great.wpList_runTo rfl (some 525) rfl (iv r.version) wa (by go_simp) ?_; simp only [Act.put, List.setIfInBounds_toArray, List.set_cons_succ, List.set_cons_zero]; refine Go.Great.wpList_runTo rfl (some 526) rfl (.pointer (some ⟨g2 + 1, 13, none⟩)) wa (by go_simp) ?_; simp only [Act.put, List.setIfInBounds_toArray, List.set_cons_succ, List.set_cons_zero]; refine Go.Great.wpList_runTo rfl (some 527) rfl (iv r.value) wa (by go_simp) ?_; simp only [Act.put, List.setIfInBounds_toArray, List.set_cons_succ, List.set_cons_zero]; refine Go.Great.wpList_runTo rfl (some 528) rfl (.agg #[iv 1, iv r.hop, iv 0, iv r.version, iv r.value]) wa (by go_simp) ?_; simp only [Act.put, List.setIfInBounds_toArray, List.set_cons_succ, List.set_cons_zero]; refine aA rfl 69 _ _ rfl g #[iv 1, iv r.hop, iv 0, iv r.version, iv r.value] [iv 1, iv r.hop, iv 0, iv r.version, iv r.value] rfl rfl rfl rQ.o rfl (by kernel_rfl) (by kernel_rfl) fun wb hpt hov => ?_
  have Vl := ak hpt; have kg : Hid (Below wr.heap.size wr wb) := ak (gG.o.trans (hov.below gG.o.size fun j e => by have := HG.o; omega))
  have l9 := ak (aN.o.later kg.o); clear hpt hov q0 uN wP Bc p0 p1; have q0 := l9.o.dF.cell (j := 0) rfl; rw [HK.o] at q0; obtain ⟨hfi, Bd⟩ := l9.o.fi.place HP.o ⟨1, r.hop, 0, r.version, r.value⟩ (k := k) wV.o [iv 1, iv r.hop, iv 0, iv r.version, iv r.value] 0 (by simp [Value.oneCell']) (by show 0 + 5 <= 5; decide) (fun q _ => by rfl)
  have Fv := ak Bd; obtain ⟨s', hs'⟩ : ∃ x, bJ s (k : Int) ⟨1, r.hop, 0, r.version, r.value⟩ = x := ⟨_, rfl⟩; have kX : Hid (aC s r = (s', 0)) := ak (by rw [HF.o]; unfold vG; rw [if_neg (by rw [j_.o]; decide), if_neg (by unfold owns; rw [j_.o, lD.o, decide_eq_false HST.o]; decide), if_neg (by rw [lD.o]; exact lC.o), wN.o, hs']); rw [hs'] at hfi; have eY := ak hfi; clear hfi Bd hs'; have hcs : wb.cell? ⟨g6, 4, none⟩ = some (.slice (some ⟨pb, 0, none⟩) n y.p) := by
   have h1 := l9.o.fi.own.br.cell (j := 4) rfl; rw [HP.o, HN.o] at h1; exact h1
  have q9 : wb.cell? ⟨g2 + 1, 9, none⟩ = some (iv (k : Int)) := by
   have h1 := l9.o.dF.cell (j := 9) rfl; rw [wN.o] at h1; exact h1
  have z1 : (0 : Int) <= (k : Int) := by omega
  have z2 : (k : Int) < (n : Int) := by have := wV.o; have := HN.o; omega
  have z3 : k < n := by omega
  go_upto_region 128 with (fail)
  apply wp_region_lit
  refine Go.Great.wpList_runTo rfl (some 545) rfl (.pointer (some ⟨g6, 4, none⟩)) wb (by go_simp) ?_; simp only [Act.put, List.setIfInBounds_toArray, List.set_cons_succ, List.set_cons_zero]; refine Go.Great.wpList_runTo rfl (some 546) rfl (.slice (some ⟨pb, 0, none⟩) n y.p) wb (by go_simp) ?_; simp only [Act.put, List.setIfInBounds_toArray, List.set_cons_succ, List.set_cons_zero]; refine Go.Great.wpList_runTo rfl (some 547) rfl (.pointer (some ⟨g2 + 1, 9, none⟩)) wb (by go_simp) ?_; simp only [Act.put, List.setIfInBounds_toArray, List.set_cons_succ, List.set_cons_zero]; refine Go.Great.wpList_runTo rfl (some 548) rfl (iv (k : Int)) wb (by go_simp) ?_; simp only [Act.put, List.setIfInBounds_toArray, List.set_cons_succ, List.set_cons_zero]; refine aD rfl 69 _ rfl g #[iv 1, iv r.hop, iv 0, iv r.version, iv r.value] rfl rfl Vl.o Tryz.underlying69 rfl (by kernel_rfl) ?_; simp only [Act.put, List.setIfInBounds_toArray, List.set_cons_succ, List.set_cons_zero]; refine Go.Great.wpList_runTo rfl (some 550) rfl (.pointer (some ⟨pb, k * 5, none⟩)) wb (by go_simp) ?_; simp only [Act.put, List.setIfInBounds_toArray, List.set_cons_succ, List.set_cons_zero]; refine wpList_store_mid rfl 69 _ _ rfl pb (k * 5 + 0) #[iv 1, iv r.hop, iv 0, iv r.version, iv r.value] rfl rfl Fv.o (by kernel_rfl) (by kernel_rfl) ?_; obtain ⟨wq, lU⟩ := aj (wb.setCells pb (k * 5 + 0) [iv 1, iv r.hop, iv 0, iv r.version, iv r.value]); rw [<- lU] at eY; rw [show (#[Value.int .i64 1, iv r.hop, iv 0, iv r.version, iv r.value] : Array Value).toList = [iv 1, iv r.hop, iv 0, iv r.version, iv r.value] from rfl, <- lU]
  clear lU hcs q9 z1 z2 z3
  go_upto_region 129 with (fail)
  apply wp_region_lit
  refine aD rfl 41 _ rfl g6 (s'.va y) rfl rfl (eY.o.own.br) Tryz.underlying41 rfl (by kernel_rfl) ?_; refine aA rfl 41 _ _ rfl (g2 + 2) (s'.va y) (s'.vl y) rfl rfl rfl (eY.o).res rfl (by kernel_rfl) (by kernel_rfl) fun w5 hpt hov => ?_
  have bU := ak hpt; have cj := ak hov; clear hpt hov
  go_wp2_with fail
  refine bodyPost_ret (v := .tuple #[.agg (s'.va y), iv 0]) ((aI (p := 4) (q := 5) (ty := 41) (by rfl) _ bU.o _ (by rfl) Tryz.underlying41 rfl (by kernel_rfl)).trans (by rfl)) rfl ?_; exact jS (eY.o) cj.o (kX.o) rfl
set_option maxHeartbeats 4000000 in
theorem J8 {B0 : Nat} {w0 : World} {g2 g6 : Nat} {s : St} {y : Sy} {r : Rc} {z : Lay} (hk : r.kind = 10) : je [1, 1, 1, 1, 1, 1, 1, 1, 1, 1, 1, 1, 1, 1] B0 w0 g2 g6 s y r z := by
 intro wr h cc hc; iterate 546 intro _
 conv at hc => rhs; whnf
 subst hc; have aN := ak h; have q0 := h.dF.cell (j := 0) rfl; clear h; have HK := ak hk; have HB : Hid (aC s r = aV s r) := ak (bN aN.o.rt); rw [hk] at q0; clear hk; have HF : Hid (aC s r = fY s r) := ak (by rw [HB.o]; unfold aV; rw [HK.o]; rfl); obtain ⟨hc, vD⟩ := ah (bp s r.cell); have j_ := ak vD; rw [vD]; clear vD
 cases hc with
 | false =>
  have fJ : Hid ((aC s r).2 = 1) := ak (by rw [HF.o]; unfold fY; rw [if_pos j_.o])
  go_upto_region 106 with (fail)
  apply wp_region_lit
  refine Go.Great.wpList_runTo rfl (some 476) rfl (.agg ZA) wr (by go_simp) ?_; refine aA rfl 41 _ _ rfl (g2 + 2) ZA ZL rfl rfl rfl (aN.o.fi).res rfl (by kernel_rfl) (by simp [Value.oneCell']) fun w5 hpt hov => ?_
  have bU := ak hpt; have cj := ak hov; clear hpt hov
  go_wp2_with fail
  refine bodyPost_ret (v := .tuple #[.agg ZA, iv 1]) ((aI (p := 4) (q := 5) (ty := 41) (by rfl) _ bU.o _ (by rfl) Tryz.underlying41 rfl (by kernel_rfl)).trans (by rfl)) rfl ?_; exact bC (aN.o.fi) cj.o (fJ.o) (by decide)
 | true =>
  obtain ⟨pb, k, pl, hP, gH, hkl, hpl, hat⟩ := aN.o.fi.own.place j_.o; have HP := ak hP; have wN := ak gH; have wV := ak hkl; have lD := ak hat; have v0 := aN.o.fi.own.bg hP hpl (j := 0) rfl; have v1 := aN.o.fi.own.bg hP hpl (j := 1) rfl; have v2 := aN.o.fi.own.bg hP hpl (j := 2) rfl; have v3 := aN.o.fi.own.bg hP hpl (j := 3) rfl; have v4 := aN.o.fi.own.bg hP hpl (j := 4) rfl; rw [Nat.add_zero] at v0; obtain ⟨n, hn⟩ := ah s.places.length; have HN := ak hn; have hcs := aN.o.fi.own.br.cell (j := 4) rfl; rw [hP, hn] at hcs; have q9 := aN.o.dF.cell (j := 9) rfl; rw [gH] at q9; have z1 : (0 : Int) <= (k : Int) := by omega
  have z2 : (k : Int) < (n : Int) := by omega
  have z3 : k < n := by omega
  obtain ⟨wa, cM⟩ := aj (wr.alloc (.cells #[iv pl.status, iv pl.hop, iv pl.to, iv pl.version, iv pl.value] 69)); have hba : Below wr.heap.size wr wa := by rw [cM]; exact av _ _
  have rQ : Hid (Cells wa wr.heap.size 69 [iv pl.status, iv pl.hop, iv pl.to, iv pl.version, iv pl.value]) := ak (by rw [cM]; exact aB wr 69 _ _ rfl); have gG := ak hba; have iQ := ak (aN.o.later hba); obtain ⟨g, hg⟩ := ah wr.heap.size; have HG := ak hg; rw [hg] at rQ; clear hP gH hkl hpl hat hn hba
  go_upto_region 108 with (fail)
  rw [<- cM]
  try rw [hg]
  clear cM hg v0 v1 v2 v3 v4 hcs q9 z1 z2 z3 q0; have q0 := iQ.o.dF.cell (j := 0) rfl; rw [HK.o] at q0; have uN := iQ.o.dF.cell (j := 11) rfl; have p0 := rQ.o.cell (j := 0) rfl; have p1 := rQ.o.cell (j := 1) rfl
  by_cases hst : pl.status = 2
  ·have HST := ak hst
   by_cases hle : r.hop = pl.hop
   ·have lC := ak hle
    rw [hst] at p0; rw [<- hle] at p1
    go_upto_region 127 with (fail)
    apply wp_region_lit
    refine Go.Great.wpList_runTo rfl (some 542) rfl (.pointer (some ⟨g2 + 1, 11, none⟩)) wa (by go_simp) ?_; simp only [Act.put, List.setIfInBounds_toArray, List.set_cons_succ, List.set_cons_zero]; refine Go.Great.wpList_runTo rfl (some 543) rfl (iv r.hop) wa (by go_simp) ?_; simp only [Act.put, List.setIfInBounds_toArray, List.set_cons_succ, List.set_cons_zero]; refine Go.Great.wpList_runTo rfl (some 544) rfl (.agg #[iv 0, iv r.hop, iv 0, iv 0, iv 0]) wa (by go_simp) ?_; simp only [Act.put, List.setIfInBounds_toArray, List.set_cons_succ, List.set_cons_zero]; refine aA rfl 69 _ _ rfl g #[iv 0, iv r.hop, iv 0, iv 0, iv 0] [iv 0, iv r.hop, iv 0, iv 0, iv 0] rfl rfl rfl rQ.o rfl (by kernel_rfl) (by kernel_rfl) fun wb hpt hov => ?_
    have Vl := ak hpt; have kg : Hid (Below wr.heap.size wr wb) := ak (gG.o.trans (hov.below gG.o.size fun j e => by have := HG.o; omega))
    have l9 := ak (aN.o.later kg.o); clear hpt hov q0 uN p0 p1; have q0 := l9.o.dF.cell (j := 0) rfl; rw [HK.o] at q0; obtain ⟨hfi, Bd⟩ := l9.o.fi.place HP.o ⟨0, r.hop, 0, 0, 0⟩ (k := k) wV.o [iv 0, iv r.hop, iv 0, iv 0, iv 0] 0 (by simp [Value.oneCell']) (by show 0 + 5 <= 5; decide) (fun q _ => by rfl)
    have Fv := ak Bd; obtain ⟨s', hs'⟩ : ∃ x, bJ s (k : Int) ⟨0, r.hop, 0, 0, 0⟩ = x := ⟨_, rfl⟩; have kX : Hid (aC s r = (s', 0)) := ak (by rw [HF.o]; unfold fY; rw [if_neg (by rw [j_.o]; decide), if_neg (by rw [lD.o]; exact fun e => e HST.o), if_neg (by rw [lD.o]; exact fun e => e lC.o), wN.o, hs']); rw [hs'] at hfi; have eY := ak hfi; clear hfi Bd hs'; have hcs : wb.cell? ⟨g6, 4, none⟩ = some (.slice (some ⟨pb, 0, none⟩) n y.p) := by
     have h1 := l9.o.fi.own.br.cell (j := 4) rfl; rw [HP.o, HN.o] at h1; exact h1
    have q9 : wb.cell? ⟨g2 + 1, 9, none⟩ = some (iv (k : Int)) := by
     have h1 := l9.o.dF.cell (j := 9) rfl; rw [wN.o] at h1; exact h1
    have z1 : (0 : Int) <= (k : Int) := by omega
    have z2 : (k : Int) < (n : Int) := by have := wV.o; have := HN.o; omega
    have z3 : k < n := by omega
    go_upto_region 128 with (fail)
    apply wp_region_lit
    refine Go.Great.wpList_runTo rfl (some 545) rfl (.pointer (some ⟨g6, 4, none⟩)) wb (by go_simp) ?_; simp only [Act.put, List.setIfInBounds_toArray, List.set_cons_succ, List.set_cons_zero]; refine Go.Great.wpList_runTo rfl (some 546) rfl (.slice (some ⟨pb, 0, none⟩) n y.p) wb (by go_simp) ?_; simp only [Act.put, List.setIfInBounds_toArray, List.set_cons_succ, List.set_cons_zero]; refine Go.Great.wpList_runTo rfl (some 547) rfl (.pointer (some ⟨g2 + 1, 9, none⟩)) wb (by go_simp) ?_; simp only [Act.put, List.setIfInBounds_toArray, List.set_cons_succ, List.set_cons_zero]; refine Go.Great.wpList_runTo rfl (some 548) rfl (iv (k : Int)) wb (by go_simp) ?_; simp only [Act.put, List.setIfInBounds_toArray, List.set_cons_succ, List.set_cons_zero]; refine aD rfl 69 _ rfl g #[iv 0, iv r.hop, iv 0, iv 0, iv 0] rfl rfl Vl.o Tryz.underlying69 rfl (by kernel_rfl) ?_; simp only [Act.put, List.setIfInBounds_toArray, List.set_cons_succ, List.set_cons_zero]; refine Go.Great.wpList_runTo rfl (some 550) rfl (.pointer (some ⟨pb, k * 5, none⟩)) wb (by go_simp) ?_; simp only [Act.put, List.setIfInBounds_toArray, List.set_cons_succ, List.set_cons_zero]; refine wpList_store_mid rfl 69 _ _ rfl pb (k * 5 + 0) #[iv 0, iv r.hop, iv 0, iv 0, iv 0] rfl rfl Fv.o (by kernel_rfl) (by kernel_rfl) ?_; obtain ⟨wq, lU⟩ := aj (wb.setCells pb (k * 5 + 0) [iv 0, iv r.hop, iv 0, iv 0, iv 0]); rw [<- lU] at eY; rw [show (#[Value.int .i64 0, iv r.hop, iv 0, iv 0, iv 0] : Array Value).toList = [iv 0, iv r.hop, iv 0, iv 0, iv 0] from rfl, <- lU]
    clear lU hcs q9 z1 z2 z3
    go_upto_region 129 with (fail)
    apply wp_region_lit
    refine aD rfl 41 _ rfl g6 (s'.va y) rfl rfl (eY.o.own.br) Tryz.underlying41 rfl (by kernel_rfl) ?_; refine aA rfl 41 _ _ rfl (g2 + 2) (s'.va y) (s'.vl y) rfl rfl rfl (eY.o).res rfl (by kernel_rfl) (by kernel_rfl) fun w5 hpt hov => ?_
    have bU := ak hpt; have cj := ak hov; clear hpt hov
    go_wp2_with fail
    refine bodyPost_ret (v := .tuple #[.agg (s'.va y), iv 0]) ((aI (p := 4) (q := 5) (ty := 41) (by rfl) _ bU.o _ (by rfl) Tryz.underlying41 rfl (by kernel_rfl)).trans (by rfl)) rfl ?_; exact jS (eY.o) cj.o (kX.o) rfl
   have fJ : Hid ((aC s r).2 = 10) := ak (by
    rw [HF.o]; unfold fY; rw [if_neg (by rw [j_.o]; decide), if_neg (by rw [lD.o]; exact fun e => e HST.o), if_pos (by rw [lD.o]; exact hle)])
   rw [hst] at p0
   go_upto_region 126 with (fail)
   apply wp_region_lit
   refine Go.Great.wpList_runTo rfl (some 541) rfl (.agg ZA) wa (by go_simp) ?_; refine aA rfl 41 _ _ rfl (g2 + 2) ZA ZL rfl rfl rfl (iQ.o.fi).res rfl (by kernel_rfl) (by simp [Value.oneCell']) fun w5 hpt hov => ?_
   have bU := ak hpt; have cj := ak hov; clear hpt hov
   go_wp2_with fail
   refine bodyPost_ret (v := .tuple #[.agg ZA, iv 10]) ((aI (p := 4) (q := 5) (ty := 41) (by rfl) _ bU.o _ (by rfl) Tryz.underlying41 rfl (by kernel_rfl)).trans (by rfl)) rfl ?_; exact bC (iQ.o.fi) cj.o (fJ.o) (by decide)
  have fJ : Hid ((aC s r).2 = 8) := ak (by
   rw [HF.o]; unfold fY; rw [if_neg (by rw [j_.o]; decide), if_pos (by rw [lD.o]; exact hst)])
  go_upto_region 124 with (fail)
  apply wp_region_lit
  refine Go.Great.wpList_runTo rfl (some 535) rfl (.agg ZA) wa (by go_simp) ?_; refine aA rfl 41 _ _ rfl (g2 + 2) ZA ZL rfl rfl rfl (iQ.o.fi).res rfl (by kernel_rfl) (by simp [Value.oneCell']) fun w5 hpt hov => ?_
  have bU := ak hpt; have cj := ak hov; clear hpt hov
  go_wp2_with fail
  refine bodyPost_ret (v := .tuple #[.agg ZA, iv 8]) ((aI (p := 4) (q := 5) (ty := 41) (by rfl) _ bU.o _ (by rfl) Tryz.underlying41 rfl (by kernel_rfl)).trans (by rfl)) rfl ?_; exact bC (iQ.o.fi) cj.o (fJ.o) (by decide)
set_option maxHeartbeats 4000000 in
theorem Za {B0 : Nat} {w0 : World} {g2 g6 : Nat} {s : St} {y : Sy} {r : Rc} {z : Lay} (hn : r.kind ≠ 12 -> je [1, 1, 1, 1, 1, 1, 1] B0 w0 g2 g6 s y r z) : je [1, 1, 1, 1, 1, 1] B0 w0 g2 g6 s y r z := by
 intro wr h cc hc; iterate 546 intro _
 conv at hc => rhs; whnf
 subst hc
 apply wp_seq_k
 intro K hK; have ju := ak hK; clear hK; have aN := ak h; have iu := ak hn; have q0 := h.dF.cell (j := 0) rfl; clear h hn
 go_upto_region 8 with (fail)
 by_cases hk : r.kind = 12
 ·have HK := ak hk
  have HB : Hid (aC s r = aV s r) := ak (bN aN.o.rt); rw [hk] at q0; clear hk iu; have HF : Hid (aC s r = (s, 0)) := ak (by rw [HB.o]; unfold aV; rw [HK.o]; rfl)
  go_upto_region 9 with (fail)
  apply wp_region_lit
  refine aD rfl 41 _ rfl g6 (s.va y) rfl rfl (aN.o.fi.own.br) Tryz.underlying41 rfl (by kernel_rfl) ?_; refine aA rfl 41 _ _ rfl (g2 + 2) (s.va y) (s.vl y) rfl rfl rfl (aN.o.fi).res rfl (by kernel_rfl) (by kernel_rfl) fun w5 hpt hov => ?_
  have bU := ak hpt; have cj := ak hov; clear hpt hov
  go_wp2_with fail
  refine bodyPost_ret (v := .tuple #[.agg (s.va y), iv 0]) ((aI (p := 4) (q := 5) (ty := 41) (by rfl) _ bU.o _ (by rfl) Tryz.underlying41 rfl (by kernel_rfl)).trans (by rfl)) rfl ?_; exact jS (aN.o.fi) cj.o (HF.o) rfl
 have fL := ak (iu.o hk)
 go_wp2_with fail
 exact ju.o _ _ (by apply fL.o _ aN.o _ (by kernel_rfl))
set_option maxHeartbeats 4000000 in
theorem WV {B0 : Nat} {w0 : World} {g2 g6 : Nat} {s : St} {y : Sy} {r : Rc} {z : Lay} (hn : r.kind ≠ 2 -> je [1, 1, 1, 1, 1, 1, 1, 1] B0 w0 g2 g6 s y r z) : je [1, 1, 1, 1, 1, 1, 1] B0 w0 g2 g6 s y r z := by
 intro wr h cc hc; iterate 546 intro _
 conv at hc => rhs; whnf
 subst hc
 apply wp_seq_k
 intro K hK; have ju := ak hK; clear hK; have aN := ak h; have iu := ak hn; have q0 := h.dF.cell (j := 0) rfl; clear h hn
 go_upto_region 10 with (fail)
 by_cases hk : r.kind = 2
 ·have HK := ak hk
  have HB : Hid (aC s r = aV s r) := ak (bN aN.o.rt); rw [hk] at q0; clear hk iu; have q8 := aN.o.dF.cell (j := 8) rfl; have q3 := aN.o.fi.own.br.cell (j := 3) rfl; have HF : Hid (aC s r = gj s r) := ak (by rw [HB.o]; unfold aV; rw [HK.o]; rfl)
  by_cases hle : r.num <= s.epoch
  ·have fJ : Hid ((aC s r).2 = 10) := ak (by rw [HF.o]; unfold gj; rw [if_pos hle])
   go_upto_region 12 with (fail)
   apply wp_region_lit
   refine Go.Great.wpList_runTo rfl (some 79) rfl (.agg ZA) wr (by go_simp) ?_; refine aA rfl 41 _ _ rfl (g2 + 2) ZA ZL rfl rfl rfl (aN.o.fi).res rfl (by kernel_rfl) (by simp [Value.oneCell']) fun w5 hpt hov => ?_
   have bU := ak hpt; have cj := ak hov; clear hpt hov
   go_wp2_with fail
   refine bodyPost_ret (v := .tuple #[.agg ZA, iv 10]) ((aI (p := 4) (q := 5) (ty := 41) (by rfl) _ bU.o _ (by rfl) Tryz.underlying41 rfl (by kernel_rfl)).trans (by rfl)) rfl ?_; exact bC (aN.o.fi) cj.o (fJ.o) (by decide)
  have kX : Hid (aC s r = ({ s with epoch := r.num }, 0)) := ak (by rw [HF.o]; unfold gj; rw [if_neg hle])
  have hfz := aN.o.fi.own.br.frozen (j := 3) (by show 3 < 8; decide)
  obtain ⟨wq, lU⟩ := aj (wr.setCell ⟨g6, 3, none⟩ (iv r.num)); have eY : Hid (Fi B0 w0 g2 g6 { s with epoch := r.num } y wq) := ak (by
   have hi := aN.o.fi; have ho : Only (fun k => k = g6) wr wq := by rw [lU]; exact Only.b_ wr ⟨g6, 3, none⟩ _
   have hg := hi.gt; refine ⟨hi.low.trans (ho.below hi.low.size fun k e => by omega), hi.gt, aJ hi.res ho (by omega), hi.own.put ho ?_ rfl rfl rfl rfl, hi.far⟩; rw [lU]; exact hi.own.br.fB 3 _)
  go_upto_region 14 with (fail)
  rw [<- lU]; clear lU q0 q8 q3 hfz
  go_upto_region 14 with (fail)
  apply wp_region_lit
  refine aD rfl 41 _ rfl g6 #[iv ({ s with epoch := r.num } : St).node, iv ({ s with epoch := r.num } : St).nodes, iv ({ s with epoch := r.num } : St).cells, iv ({ s with epoch := r.num } : St).epoch, .slice y.P ({ s with epoch := r.num } : St).places.length y.p, .slice y.Q ({ s with epoch := r.num } : St).ay.length y.q, .slice y.D ({ s with epoch := r.num } : St).dec.length y.d, .slice y.C ({ s with epoch := r.num } : St).com.length y.c] rfl rfl (eY.o.own.br) Tryz.underlying41 rfl (by kernel_rfl) ?_; refine aA rfl 41 _ _ rfl (g2 + 2) #[iv ({ s with epoch := r.num } : St).node, iv ({ s with epoch := r.num } : St).nodes, iv ({ s with epoch := r.num } : St).cells, iv ({ s with epoch := r.num } : St).epoch, .slice y.P ({ s with epoch := r.num } : St).places.length y.p, .slice y.Q ({ s with epoch := r.num } : St).ay.length y.q, .slice y.D ({ s with epoch := r.num } : St).dec.length y.d, .slice y.C ({ s with epoch := r.num } : St).com.length y.c] [iv ({ s with epoch := r.num } : St).node, iv ({ s with epoch := r.num } : St).nodes, iv ({ s with epoch := r.num } : St).cells, iv ({ s with epoch := r.num } : St).epoch, .slice y.P ({ s with epoch := r.num } : St).places.length y.p, .slice y.Q ({ s with epoch := r.num } : St).ay.length y.q, .slice y.D ({ s with epoch := r.num } : St).dec.length y.d, .slice y.C ({ s with epoch := r.num } : St).com.length y.c] rfl rfl rfl (eY.o).res rfl (by kernel_rfl) (by kernel_rfl) fun w5 hpt hov => ?_
  have bU := ak hpt; have cj := ak hov; clear hpt hov
  go_wp2_with fail
  refine bodyPost_ret (v := .tuple #[.agg #[iv ({ s with epoch := r.num } : St).node, iv ({ s with epoch := r.num } : St).nodes, iv ({ s with epoch := r.num } : St).cells, iv ({ s with epoch := r.num } : St).epoch, .slice y.P ({ s with epoch := r.num } : St).places.length y.p, .slice y.Q ({ s with epoch := r.num } : St).ay.length y.q, .slice y.D ({ s with epoch := r.num } : St).dec.length y.d, .slice y.C ({ s with epoch := r.num } : St).com.length y.c], iv 0]) ((aI (p := 4) (q := 5) (ty := 41) (by rfl) _ bU.o _ (by rfl) Tryz.underlying41 rfl (by kernel_rfl)).trans (by rfl)) rfl ?_; exact jS (eY.o) cj.o (kX.o) rfl
 have fL := ak (iu.o hk)
 go_wp2_with fail
 exact ju.o _ _ (by apply fL.o _ aN.o _ (by kernel_rfl))
end Go.Proofs.YtdkchpiinelmiaaGreat.Led
namespace Go.Proofs.YtdkchpiinelmiaaGreat.Rec
set_option maxRecDepth 100000
open Go.RowKit Mem fN
theorem gS {w : World} {g : Nat} {t : TypeId} {l : List Int} (h : Cells w g t (l.map (Value.int .i64))) : gZ w (some ⟨g, 0, none⟩) l :=
 fun k hk => ⟨g, 0, rfl, by rw [Nat.zero_add]; exact h.cell (by simp [hk])⟩
def rl (k : Int) : List Int := if k = 1 then [1, 2, 3] else if k = 2 then [3] else if k = 3 then [4, 5, 6, 1, 7, 8] else if k = 8 then [4, 6, 1] else if k = 9 then [4, 6, 7, 8] else if k = 10 then [4, 6] else []
theorem TM (k : Int) : (rl k).length <= 6 := by
 unfold rl
 split
 ·decide
 split
 ·decide
 split
 ·decide
 split
 ·decide
 split
 ·decide
 split
 ·decide
 decide
set_option maxHeartbeats 4000000 in
theorem uD (k : Int) (w : World) (hk : 1 <= k /\ k <= 12) :
  Calls Tryz.prog 66 #[iv k] w fun e w' => ∃ A c, e = .returned (.slice A (rl k).length c) /\ gZ w' A (rl k) /\ (∀ b off, A = some ⟨b, off, none⟩ -> w.heap.size <= b) /\ Below w.heap.size w w' := by
 rcases (show k = 1 \/ k = 2 \/ k = 3 \/ k = 4 \/ k = 5 \/ k = 6 \/ k = 7 \/ k = 8 \/ k = 9 \/ k = 10 \/ k = 11 \/ k = 12 by omega) with rfl | rfl | rfl | rfl | rfl | rfl | rfl | rfl | rfl | rfl | rfl | rfl
 ·go_enter Tryz.func66, Tryz.ntmps66
  go_wp2
  go_returns
  have hc := aB (w.alloc (.cells #[] 3)) 3 ((rl 1).map (Value.int .i64)) #[iv 1, iv 2, iv 3] rfl; simp only [World.size_alloc] at hc; exact ⟨_, _, rfl, gS ((((((((((((hc.later (av _ _)).later (av _ _)).later (av _ _)).later (av _ _)).later (av _ _)).later (av _ _)).later (av _ _)).later (av _ _)).later (av _ _)).later (av _ _)).later (av _ _)).later (av _ _)), (by intro b off e; cases e; omega), by go_grown⟩
 ·go_enter Tryz.func66, Tryz.ntmps66
  go_wp2
  go_returns
  have hc := aB ((w.alloc (.cells #[] 3)).alloc (.cells #[iv 1, iv 2, iv 3] 3)) 3 ((rl 2).map (Value.int .i64)) #[iv 3] rfl; simp only [World.size_alloc] at hc; exact ⟨_, _, rfl, gS (((((((((((hc.later (av _ _)).later (av _ _)).later (av _ _)).later (av _ _)).later (av _ _)).later (av _ _)).later (av _ _)).later (av _ _)).later (av _ _)).later (av _ _)).later (av _ _)), (by intro b off e; cases e; omega), by go_grown⟩
 ·go_enter Tryz.func66, Tryz.ntmps66
  go_wp2
  go_returns
  have hc := aB (((w.alloc (.cells #[] 3)).alloc (.cells #[iv 1, iv 2, iv 3] 3)).alloc (.cells #[iv 3] 3)) 3 ((rl 3).map (Value.int .i64)) #[iv 4, iv 5, iv 6, iv 1, iv 7, iv 8] rfl; simp only [World.size_alloc] at hc; exact ⟨_, _, rfl, gS ((((((((((hc.later (av _ _)).later (av _ _)).later (av _ _)).later (av _ _)).later (av _ _)).later (av _ _)).later (av _ _)).later (av _ _)).later (av _ _)).later (av _ _)), (by intro b off e; cases e; omega), by go_grown⟩
 ·go_enter Tryz.func66, Tryz.ntmps66
  go_wp2
  go_returns
  exact ⟨_, _, rfl, ft _ _, (by intro b off e; cases e; omega), by go_grown⟩
 ·go_enter Tryz.func66, Tryz.ntmps66
  go_wp2
  go_returns
  exact ⟨_, _, rfl, ft _ _, (by intro b off e; cases e; omega), by go_grown⟩
 ·go_enter Tryz.func66, Tryz.ntmps66
  go_wp2
  go_returns
  exact ⟨_, _, rfl, ft _ _, (by intro b off e; cases e; omega), by go_grown⟩
 ·go_enter Tryz.func66, Tryz.ntmps66
  go_wp2
  go_returns
  exact ⟨_, _, rfl, ft _ _, (by intro b off e; cases e; omega), by go_grown⟩
 ·go_enter Tryz.func66, Tryz.ntmps66
  go_wp2
  go_returns
  have hc := aB ((((((((w.alloc (.cells #[] 3)).alloc (.cells #[iv 1, iv 2, iv 3] 3)).alloc (.cells #[iv 3] 3)).alloc (.cells #[iv 4, iv 5, iv 6, iv 1, iv 7, iv 8] 3)).alloc (.cells #[] 3)).alloc (.cells #[] 3)).alloc (.cells #[] 3)).alloc (.cells #[] 3)) 3 ((rl 8).map (Value.int .i64)) #[iv 4, iv 6, iv 1] rfl; simp only [World.size_alloc] at hc; exact ⟨_, _, rfl, gS (((((hc.later (av _ _)).later (av _ _)).later (av _ _)).later (av _ _)).later (av _ _)), (by intro b off e; cases e; omega), by go_grown⟩
 ·go_enter Tryz.func66, Tryz.ntmps66
  go_wp2
  go_returns
  have hc := aB (((((((((w.alloc (.cells #[] 3)).alloc (.cells #[iv 1, iv 2, iv 3] 3)).alloc (.cells #[iv 3] 3)).alloc (.cells #[iv 4, iv 5, iv 6, iv 1, iv 7, iv 8] 3)).alloc (.cells #[] 3)).alloc (.cells #[] 3)).alloc (.cells #[] 3)).alloc (.cells #[] 3)).alloc (.cells #[iv 4, iv 6, iv 1] 3)) 3 ((rl 9).map (Value.int .i64)) #[iv 4, iv 6, iv 7, iv 8] rfl; simp only [World.size_alloc] at hc; exact ⟨_, _, rfl, gS ((((hc.later (av _ _)).later (av _ _)).later (av _ _)).later (av _ _)), (by intro b off e; cases e; omega), by go_grown⟩
 ·go_enter Tryz.func66, Tryz.ntmps66
  go_wp2
  go_returns
  have hc := aB ((((((((((w.alloc (.cells #[] 3)).alloc (.cells #[iv 1, iv 2, iv 3] 3)).alloc (.cells #[iv 3] 3)).alloc (.cells #[iv 4, iv 5, iv 6, iv 1, iv 7, iv 8] 3)).alloc (.cells #[] 3)).alloc (.cells #[] 3)).alloc (.cells #[] 3)).alloc (.cells #[] 3)).alloc (.cells #[iv 4, iv 6, iv 1] 3)).alloc (.cells #[iv 4, iv 6, iv 7, iv 8] 3)) 3 ((rl 10).map (Value.int .i64)) #[iv 4, iv 6] rfl; simp only [World.size_alloc] at hc; exact ⟨_, _, rfl, gS (((hc.later (av _ _)).later (av _ _)).later (av _ _)), (by intro b off e; cases e; omega), by go_grown⟩
 ·go_enter Tryz.func66, Tryz.ntmps66
  go_wp2
  go_returns
  exact ⟨_, _, rfl, ft _ _, (by intro b off e; cases e; omega), by go_grown⟩
 go_enter Tryz.func66, Tryz.ntmps66
 go_wp2
 go_returns
 exact ⟨_, _, rfl, ft _ _, (by intro b off e; cases e; omega), by go_grown⟩
theorem tA (A : Option Addr) (l : List Int) (c : Nat) (n : Int) (w : World) (hl : gZ w A l) (hm : l.length <= 1000) :
  Calls Tryz.prog 67 #[.slice A l.length c, iv n] w fun e w' => e = .returned (.bool (decide (n ∈ l))) /\ w = w' := by
 have HL := ak hl; clear hl
 go_enter Tryz.func67, Tryz.ntmps67
 go_wp2_with fail
 go_loopw [5] (fun i wr => ∃ k : Nat, k <= l.length /\ i = iv (k : Int) /\ Hid (n ∉ l.take k) /\ w = wr) (fun i _ => l.length - (intOf i).toNat)
 case atStart => exact ⟨0, by omega, rfl, ak (by simp), rfl⟩
 case round =>
  obtain ⟨k, hk, rfl, hz, rfl⟩ := hrel
  by_cases hlt : k < l.length
  ·obtain ⟨b, off, rfl, hc⟩ := HL.o k hlt
   have HT := ak (show l.take (k + 1) = l.take k ++ [l[k]] from List.take_succ_eq_append_getElem hlt)
   have HME := ak (List.getElem_mem hlt)
   generalize l[k] = x at *
   by_cases hx : x = n
   ·subst hx
    have HD := ak (decide_eq_true HME.o)
    go_wp2_with fail
    go_returns
    exact ⟨aG HD.o, rfl⟩
   have HZ : Hid (n ∉ l.take (k + 1)) := ak (by
    rw [HT.o]; intro h; rcases List.mem_append.1 h with h | h
    ·exact hz.o h
    simp at h; exact hx h.symm)
   go_wp2_with fail
   go_roundw
   case rel => exact ⟨k + 1, by omega, by go_num, HZ, by trivial⟩
   case measure => simp [intOf]; omega
  have HD : Hid (decide (n ∈ l) = false) := ak (decide_eq_false (by
   have := hz.o
   rwa [List.take_of_length_le (by omega)] at this))
  clear hz
  go_wp2_with fail
  go_returns
  exact ⟨aG HD.o, rfl⟩
def named (k : Int) : Bool := decide ((4 <= k /\ k <= 7) \/ k = 11)
theorem wj (k : Int) (w : World) : Calls Tryz.prog 69 #[iv k] w fun e w' => e = .returned (.bool (named k)) /\ w = w' := by
 obtain ⟨v, hv⟩ := ah (named k); rw [hv]; unfold named at hv
 by_cases h1 : 4 <= k
 ·by_cases h2 : k <= 7
  ·have HV : Hid (v = true) := ak (by rw [<- hv]; exact decide_eq_true (by omega))
   clear hv
   go_enter Tryz.func69, Tryz.ntmps69
   go_wp2
   go_returns
   exact ⟨aG HV.o, rfl⟩
  by_cases h3 : k = 11
  ·have HV : Hid (v = true) := ak (by rw [<- hv]; exact decide_eq_true (by omega))
   clear hv; subst h3
   go_enter Tryz.func69, Tryz.ntmps69
   go_wp2
   go_returns
   exact ⟨aG HV.o, rfl⟩
  have HV : Hid (v = false) := ak (by rw [<- hv]; exact decide_eq_false (by omega))
  have h3' : (k == 11) = false := by simp [h3]
  clear hv
  go_enter Tryz.func69, Tryz.ntmps69
  go_wp2
  go_returns
  exact ⟨aG HV.o, rfl⟩
 have HV : Hid (v = false) := ak (by rw [<- hv]; exact decide_eq_false (by omega))
 have h3 : (k == 11) = false := by
  have : ¬ k = 11 := by omega
  simp [this]
 clear hv
 go_enter Tryz.func69, Tryz.ntmps69
 go_wp2
 go_returns
 exact ⟨aG HV.o, rfl⟩
