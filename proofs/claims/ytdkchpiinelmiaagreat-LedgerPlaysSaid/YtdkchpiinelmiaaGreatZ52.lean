/- Part 52 of the proof. Conditions: none. -/
import Derived.Test.YtdkchpiinelmiaaGreatZ51
namespace Go.Proofs.YtdkchpiinelmiaaGreat.Led
set_option maxRecDepth 100000
open Go.RowKit Go.Deep Mem fN Rec
set_option maxHeartbeats 4000000 in
theorem J7 {B0 : Nat} {w0 : World} {g2 g6 : Nat} {s : St} {y : Sy} {r : Rc} {z : Lay} (hk : r.kind = 8) : je [1, 1, 1, 1, 1, 1, 1, 1, 1, 1, 1, 1, 1, 1] B0 w0 g2 g6 s y r z := by
 intro wr h cc hc; iterate 546 intro _
 conv at hc => rhs; whnf
 subst hc; have aN := ak h; have q0 := h.dF.cell (j := 0) rfl; clear h; have HK := ak hk; have HB : Hid (aC s r = aV s r) := ak (bN aN.o.rt); rw [hk] at q0; clear hk; have HF : Hid (aC s r = iz s r) := ak (by rw [HB.o]; unfold aV; rw [HK.o]; rfl); obtain ⟨hc, vD⟩ := ah (bp s r.cell); have j_ := ak vD; rw [vD]; clear vD
 cases hc with
 | false =>
  have fJ : Hid ((aC s r).2 = 1) := ak (by rw [HF.o]; unfold iz; rw [if_pos j_.o])
  go_upto_region 106 with (fail)
  apply wp_region_lit
  refine Go.Great.wpList_runTo rfl (some 476) rfl (.agg ZA) wr (by go_simp) ?_; refine aA rfl 41 _ _ rfl (g2 + 2) ZA ZL rfl rfl rfl (aN.o.fi).res rfl (by kernel_rfl) (by simp [Value.oneCell']) fun w5 hpt hov => ?_
  have bU := ak hpt; have cj := ak hov; clear hpt hov
  go_wp2_with fail
  refine bodyPost_ret (v := .tuple #[.agg ZA, iv 1]) ((aI (p := 4) (q := 5) (ty := 41) (by rfl) _ bU.o _ (by rfl) Tryz.underlying41 rfl (by kernel_rfl)).trans (by rfl)) rfl ?_; exact bC (aN.o.fi) cj.o (fJ.o) (by decide)
 | true =>
  obtain ⟨pb, k, pl, hP, gH, hkl, hpl, hat⟩ := aN.o.fi.own.place j_.o; have HP := ak hP; have wN := ak gH; have wV := ak hkl; have lD := ak hat; have v0 := aN.o.fi.own.bg hP hpl (j := 0) rfl; have v1 := aN.o.fi.own.bg hP hpl (j := 1) rfl; have v2 := aN.o.fi.own.bg hP hpl (j := 2) rfl; have v3 := aN.o.fi.own.bg hP hpl (j := 3) rfl; have v4 := aN.o.fi.own.bg hP hpl (j := 4) rfl; rw [Nat.add_zero] at v0; obtain ⟨n, hn⟩ := ah s.places.length; have HN := ak hn; have hcs := aN.o.fi.own.br.cell (j := 4) rfl; rw [hP, hn] at hcs; have q9 := aN.o.dF.cell (j := 9) rfl; rw [gH] at q9; have z1 : (0 : Int) <= (k : Int) := by omega
  have z2 : (k : Int) < (n : Int) := by omega
  have z3 : k < n := by omega
  obtain ⟨wa, cM⟩ := aj (wr.alloc (.cells #[iv pl.status, iv pl.hop, iv pl.to, iv pl.version, iv pl.value] 69)); have hba : Below wr.heap.size wr wa := by rw [cM]; exact av _ _
  have rQ : Hid (Cells wa wr.heap.size 69 [iv pl.status, iv pl.hop, iv pl.to, iv pl.version, iv pl.value]) := ak (by rw [cM]; exact aB wr 69 _ _ rfl); have gG := ak hba; have iQ := ak (aN.o.later hba); obtain ⟨g, hg⟩ := ah wr.heap.size; have HG := ak hg; rw [hg] at rQ; clear hP gH hkl hpl hat hn hba; have q6 := aN.o.dF.cell (j := 6) rfl; have m0 := aN.o.fi.own.br.cell (j := 0) rfl; have m1 := aN.o.fi.own.br.cell (j := 1) rfl
  by_cases hab : r.node > s.nodes
  ·have fJ : Hid ((aC s r).2 = 1) := ak (by
    rw [HF.o]; unfold iz; rw [if_neg (by rw [j_.o]; decide)]
    by_cases e : r.node = s.node
    ·rw [if_pos e]
    rw [if_neg e, if_pos (by unfold above; simpa using hab)])
   clear cM
   go_upto_region 106 with (fail)
   apply wp_region_lit
   refine Go.Great.wpList_runTo rfl (some 476) rfl (.agg ZA) wr (by go_simp) ?_; refine aA rfl 41 _ _ rfl (g2 + 2) ZA ZL rfl rfl rfl (aN.o.fi).res rfl (by kernel_rfl) (by simp [Value.oneCell']) fun w5 hpt hov => ?_
   have bU := ak hpt; have cj := ak hov; clear hpt hov
   go_wp2_with fail
   refine bodyPost_ret (v := .tuple #[.agg ZA, iv 1]) ((aI (p := 4) (q := 5) (ty := 41) (by rfl) _ bU.o _ (by rfl) Tryz.underlying41 rfl (by kernel_rfl)).trans (by rfl)) rfl ?_; exact bC (aN.o.fi) cj.o (fJ.o) (by decide)
  by_cases hnd : r.node = s.node
  ·have fJ : Hid ((aC s r).2 = 1) := ak (by
    rw [HF.o]; unfold iz; rw [if_neg (by rw [j_.o]; decide), if_pos hnd])
   clear cM
   go_upto_region 106 with (fail)
   apply wp_region_lit
   refine Go.Great.wpList_runTo rfl (some 476) rfl (.agg ZA) wr (by go_simp) ?_; refine aA rfl 41 _ _ rfl (g2 + 2) ZA ZL rfl rfl rfl (aN.o.fi).res rfl (by kernel_rfl) (by simp [Value.oneCell']) fun w5 hpt hov => ?_
   have bU := ak hpt; have cj := ak hov; clear hpt hov
   go_wp2_with fail
   refine bodyPost_ret (v := .tuple #[.agg ZA, iv 1]) ((aI (p := 4) (q := 5) (ty := 41) (by rfl) _ bU.o _ (by rfl) Tryz.underlying41 rfl (by kernel_rfl)).trans (by rfl)) rfl ?_; exact bC (aN.o.fi) cj.o (fJ.o) (by decide)
  have FI : Hid (¬ above s [r.node] = true) := ak (by unfold above; simpa using Int.not_lt.1 hab); have I5 := ak hnd
  go_upto_region 108 with (fail)
  rw [<- cM]
  try rw [hg]
  clear cM hg v0 v1 v2 v3 v4 hcs q9 z1 z2 z3 q0 q6 m0 m1 hab hnd; have q0 := iQ.o.dF.cell (j := 0) rfl; rw [HK.o] at q0; have uN := iQ.o.dF.cell (j := 11) rfl; have p0 := rQ.o.cell (j := 0) rfl; have p1 := rQ.o.cell (j := 1) rfl
  by_cases hst : pl.status = 1
  ·rw [hst] at p0
   have HST := ak hst; clear hst; have HOW : Hid (¬ owns s r.cell = false) := ak (by unfold owns; rw [j_.o, lD.o, HST.o]; decide)
   go_upto_region 111 with (fail)
   apply wp_region_lit
   refine aD rfl 41 _ rfl g6 (s.va y) rfl rfl (iQ.o.fi.own.br) Tryz.underlying41 rfl (by kernel_rfl) ?_; have q9 := iQ.o.dF.cell (j := 9) rfl
   go_wp2_with fail
   refine (ji s y r.cell wa iQ.o.fi.own.sees ⟨(aN.o.sm.kZ).1, (aN.o.sm.kZ).2.1⟩).mono ?_; rintro e wl ⟨rfl, hbl⟩; have kd : Hid (Below wr.heap.size wr wl) := ak (gG.o.trans (hbl.mono gG.o.size)); have sG := ak (aN.o.later kd.o); have XB := ak (rQ.o.later hbl); clear q0 q9 uN p0 p1 hbl; obtain ⟨lk, hlk⟩ := ah (locked s r.cell); have Jk := ak hlk; rw [hlk]; clear hlk
   cases lk with
   | true =>
    have fJ : Hid ((aC s r).2 = 12) := ak (by
     rw [HF.o]; unfold iz; rw [if_neg (by rw [j_.o]; decide), if_neg I5.o, if_neg FI.o, if_neg HOW.o, if_pos Jk.o])
    go_upto_region 112 with (fail)
    apply wp_region_lit
    refine Go.Great.wpList_runTo rfl (some 494) rfl (.agg ZA) wl (by go_simp) ?_; refine aA rfl 41 _ _ rfl (g2 + 2) ZA ZL rfl rfl rfl (sG.o.fi).res rfl (by kernel_rfl) (by simp [Value.oneCell']) fun w5 hpt hov => ?_
    have bU := ak hpt; have cj := ak hov; clear hpt hov
    go_wp2_with fail
    refine bodyPost_ret (v := .tuple #[.agg ZA, iv 12]) ((aI (p := 4) (q := 5) (ty := 41) (by rfl) _ bU.o _ (by rfl) Tryz.underlying41 rfl (by kernel_rfl)).trans (by rfl)) rfl ?_; exact bC (sG.o.fi) cj.o (fJ.o) (by decide)
   | false =>
    have uN := sG.o.dF.cell (j := 11) rfl; have p1 := XB.o.cell (j := 1) rfl; have HW : Hid ((1 <= r.hop /\ r.hop <= 1099511627776) /\ (0 <= pl.hop /\ pl.hop <= 1099511627776)) := ak (by
     have h1 := aN.o.gd.pl r.cell j_.o; rw [lD.o] at h1; have h2 := bF aN.o.rt 5 (by rw [HK.o]; decide) (by decide); refine ⟨?_, h1.hop⟩
     simpa [iP, HK.o, Rc.get, Rc.jN] using h2)
    have w1 : IntKind.i64.wrap (r.hop - 1) = r.hop - 1 := by have := HW.o; rw [IntKind.wrap_i64]; omega
    by_cases hle : r.hop - 1 = pl.hop
    ·have lC : Hid (¬ r.hop ≠ IntKind.i64.wrap (pl.hop + 1)) := ak (by
      have := HW.o; rw [<- hle, show r.hop - 1 + 1 = r.hop by omega, IntKind.wrap_i64]
      omega)
     have F7 : Hid (∀ wi, Only (fun j => j = g) wl wi -> Cells wi (g2 + 1) 55 (r.vals z)) := ak fun wi ho => aJ sG.o.dF ho (by have := aN.o.dF.lt; have := HG.o; omega)
     have w2 : IntKind.i64.wrap (r.hop - 1) = pl.hop := by rw [w1, hle]
     clear w1 hle
     go_upto_region 115 with (fail)
     clear uN p1 w2; refine N.bk (by kernel_rfl) (fun i => ([some (.pointer (some ⟨g2 + 1, 11, none⟩)), some (iv r.hop), some (.pointer (some ⟨g2 + 1, 6, none⟩)), some (iv r.node), some ((au g)), none, some (.pointer (some ⟨g, 1, none⟩)), none, some (.pointer (some ⟨g, 2, none⟩)), none] : List (Option Value)).getD i none) (fun D V W => Only (fun j => j = g) wl W /\ Cells W g 69 [cond (D 5) (iv 2) (iv pl.status), cond (D 7) (iv r.hop) (iv pl.hop), cond (D 9) (iv r.node) (iv pl.to), iv pl.version, iv pl.value]) (fun V => [(some 502, V 0), (some 503, V 1), (some 504, V 2), (some 505, V 3), (some 506, V 4), (none, V 5), (some 507, V 6), (none, V 7), (some 508, V 8), (none, V 9)]) (by kernel_rfl) (by kernel_rfl) (fun V => rfl) ?_ ?_ ?_
     ·intro V
      exact ⟨Only.of_below (Below.refl _ _).drew, XB.o.later (Below.refl _ _).drew⟩
     ·intro i o ho
      have hi : i < 10 := (Array.getElem?_eq_some_iff.1 ho).1; rcases i with _ | _ | _ | _ | _ | _ | _ | _ | _ | _ | i
      rotate_right
      ·omega
      all_goals obtain rfl := Option.some.inj ho
      all_goals intro D V ρ wi hE hI cP hT hF hs hd hk
      all_goals (have e3 : ρ (.tmp 3) = (au (g2 + 1)) := hs 3; have DL : ρ (.tmp 24) = (au g) := hs 24)
      ·clear hT hF hk
       exact N.gi _ ⟨fun _ => N.oi, hI⟩
      ·have aes := (hd 0 502).trans (hk 0 _ rfl); clear hT hF hk; have x0 := (F7.o wi hI.1).cell (j := 11) rfl
       exact N.gi _ ⟨fun _ => N.oi, hI⟩
      ·clear hT hF hk
       exact N.gi _ ⟨fun _ => N.oi, hI⟩
      ·have aep := (hd 2 504).trans (hk 2 _ rfl); clear hT hF hk; have x0 := (F7.o wi hI.1).cell (j := 6) rfl
       exact N.gi _ ⟨fun _ => N.oi, hI⟩
      ·clear hT hF hk
       exact N.gi _ ⟨fun _ => N.oi, hI⟩
      ·have aen := (hd 4 506).trans (hk 4 _ rfl); have hc := hE.const; clear hT hF; have x1 := hI.2.cell (j := 0) rfl
       have x2 := hI.2.frozen (j := 0) (by show 0 < 5; decide)
       exact N.Gives.skip (w' := wi.setCell ⟨g, 0, none⟩ (iv 2)) (by go_simp) ⟨fun x h => (by cases h), by show Only (fun j => j = g) wl (wi.setCell ⟨g, 0, none⟩ (iv 2)) /\ Cells (wi.setCell ⟨g, 0, none⟩ (iv 2)) g 69 [cond true (iv 2) (iv pl.status), cond (D 7) (iv r.hop) (iv pl.hop), cond (D 9) (iv r.node) (iv pl.to), iv pl.version, iv pl.value]; exact ⟨hI.1.trans (Only.b_ wi ⟨g, 0, none⟩ _) fun _ _ e => e, hI.2.fB 0 _⟩⟩
      ·clear hT hF hk
       exact N.gi _ ⟨fun _ => N.oi, hI⟩
      ·have aem := (hd 6 507).trans (hk 6 _ rfl); have aer := (hd 1 503).trans (hk 1 _ rfl); clear hT hF; have x1 := hI.2.cell (j := 1) rfl
       have x2 := hI.2.frozen (j := 1) (by show 1 < 5; decide)
       exact N.Gives.skip (w' := wi.setCell ⟨g, 1, none⟩ (iv r.hop)) (by go_simp) ⟨fun x h => (by cases h), by show Only (fun j => j = g) wl (wi.setCell ⟨g, 1, none⟩ (iv r.hop)) /\ Cells (wi.setCell ⟨g, 1, none⟩ (iv r.hop)) g 69 [cond (D 5) (iv 2) (iv pl.status), cond true (iv r.hop) (iv pl.hop), cond (D 9) (iv r.node) (iv pl.to), iv pl.version, iv pl.value]; exact ⟨hI.1.trans (Only.b_ wi ⟨g, 1, none⟩ _) fun _ _ e => e, hI.2.fB 1 _⟩⟩
      ·clear hT hF hk
       exact N.gi _ ⟨fun _ => N.oi, hI⟩
      have ael := (hd 8 508).trans (hk 8 _ rfl); have aeo := (hd 3 505).trans (hk 3 _ rfl); clear hT hF; have x1 := hI.2.cell (j := 2) rfl
      have x2 := hI.2.frozen (j := 2) (by show 2 < 5; decide)
      exact N.Gives.skip (w' := wi.setCell ⟨g, 2, none⟩ (iv r.node)) (by go_simp) ⟨fun x h => (by cases h), by show Only (fun j => j = g) wl (wi.setCell ⟨g, 2, none⟩ (iv r.node)) /\ Cells (wi.setCell ⟨g, 2, none⟩ (iv r.node)) g 69 [cond (D 5) (iv 2) (iv pl.status), cond (D 7) (iv r.hop) (iv pl.hop), cond true (iv r.node) (iv pl.to), iv pl.version, iv pl.value]; exact ⟨hI.1.trans (Only.b_ wi ⟨g, 2, none⟩ _) fun _ _ e => e, hI.2.fB 2 _⟩⟩
     intro V wb hk hI
     simp only [N.aP, List.foldl_cons, List.foldl_nil, Act.put, List.setIfInBounds_toArray, List.set_cons_succ, List.set_cons_zero]; replace hI : Only (fun j => j = g) wl wb /\ Cells wb g 69 [cond true (iv 2) (iv pl.status), cond true (iv r.hop) (iv pl.hop), cond true (iv r.node) (iv pl.to), iv pl.version, iv pl.value] := hI; clear hk; have Vl : Hid (Cells wb g 69 [iv 2, iv r.hop, iv r.node, iv pl.version, iv pl.value]) := ak hI.2; have kg : Hid (Below wr.heap.size wr wb) := ak (kd.o.trans (hI.1.below kd.o.size fun j e => by have := HG.o; omega))
     have l9 := ak (aN.o.later kg.o); clear hI; have q0 := l9.o.dF.cell (j := 0) rfl; rw [HK.o] at q0; obtain ⟨hfi, Bd⟩ := l9.o.fi.place HP.o ⟨2, r.hop, r.node, pl.version, pl.value⟩ (k := k) wV.o [iv 2, iv r.hop, iv r.node, iv pl.version, iv pl.value] 0 (by simp [Value.oneCell']) (by show 0 + 5 <= 5; decide) (fun q _ => by rfl)
     have Fv := ak Bd; obtain ⟨s', hs'⟩ : ∃ x, bJ s (k : Int) ⟨2, r.hop, r.node, pl.version, pl.value⟩ = x := ⟨_, rfl⟩; have kX : Hid (aC s r = (s', 0)) := ak (by rw [HF.o]; unfold iz; rw [if_neg (by rw [j_.o]; decide), if_neg I5.o, if_neg FI.o, if_neg HOW.o, if_neg (by rw [Jk.o]; decide), lD.o, if_neg lC.o, wN.o, hs']); rw [hs'] at hfi; have eY := ak hfi; clear hfi Bd hs'; have hcs : wb.cell? ⟨g6, 4, none⟩ = some (.slice (some ⟨pb, 0, none⟩) n y.p) := by
      have h1 := l9.o.fi.own.br.cell (j := 4) rfl; rw [HP.o, HN.o] at h1; exact h1
     have q9 : wb.cell? ⟨g2 + 1, 9, none⟩ = some (iv (k : Int)) := by
      have h1 := l9.o.dF.cell (j := 9) rfl; rw [wN.o] at h1; exact h1
     have z1 : (0 : Int) <= (k : Int) := by omega
     have z2 : (k : Int) < (n : Int) := by have := wV.o; have := HN.o; omega
     have z3 : k < n := by omega
     go_upto_region 128 with (fail)
     apply wp_region_lit
     refine Go.Great.wpList_runTo rfl (some 545) rfl (.pointer (some ⟨g6, 4, none⟩)) wb (by go_simp) ?_; simp only [Act.put, List.setIfInBounds_toArray, List.set_cons_succ, List.set_cons_zero]; refine Go.Great.wpList_runTo rfl (some 546) rfl (.slice (some ⟨pb, 0, none⟩) n y.p) wb (by go_simp) ?_; simp only [Act.put, List.setIfInBounds_toArray, List.set_cons_succ, List.set_cons_zero]; refine Go.Great.wpList_runTo rfl (some 547) rfl (.pointer (some ⟨g2 + 1, 9, none⟩)) wb (by go_simp) ?_; simp only [Act.put, List.setIfInBounds_toArray, List.set_cons_succ, List.set_cons_zero]; refine Go.Great.wpList_runTo rfl (some 548) rfl (iv (k : Int)) wb (by go_simp) ?_; simp only [Act.put, List.setIfInBounds_toArray, List.set_cons_succ, List.set_cons_zero]; refine aD rfl 69 _ rfl g #[iv 2, iv r.hop, iv r.node, iv pl.version, iv pl.value] rfl rfl Vl.o Tryz.underlying69 rfl (by kernel_rfl) ?_; simp only [Act.put, List.setIfInBounds_toArray, List.set_cons_succ, List.set_cons_zero]; refine Go.Great.wpList_runTo rfl (some 550) rfl (.pointer (some ⟨pb, k * 5, none⟩)) wb (by go_simp) ?_; simp only [Act.put, List.setIfInBounds_toArray, List.set_cons_succ, List.set_cons_zero]; refine wpList_store_mid rfl 69 _ _ rfl pb (k * 5 + 0) #[iv 2, iv r.hop, iv r.node, iv pl.version, iv pl.value] rfl rfl Fv.o (by kernel_rfl) (by kernel_rfl) ?_; obtain ⟨wq, lU⟩ := aj (wb.setCells pb (k * 5 + 0) [iv 2, iv r.hop, iv r.node, iv pl.version, iv pl.value]); rw [<- lU] at eY; rw [show (#[Value.int .i64 2, iv r.hop, iv r.node, iv pl.version, iv pl.value] : Array Value).toList = [iv 2, iv r.hop, iv r.node, iv pl.version, iv pl.value] from rfl, <- lU]
     clear lU hcs q9 z1 z2 z3
     go_upto_region 129 with (fail)
     apply wp_region_lit
     refine aD rfl 41 _ rfl g6 (s'.va y) rfl rfl (eY.o.own.br) Tryz.underlying41 rfl (by kernel_rfl) ?_; refine aA rfl 41 _ _ rfl (g2 + 2) (s'.va y) (s'.vl y) rfl rfl rfl (eY.o).res rfl (by kernel_rfl) (by kernel_rfl) fun w5 hpt hov => ?_
     have bU := ak hpt; have cj := ak hov; clear hpt hov
     go_wp2_with fail
     refine bodyPost_ret (v := .tuple #[.agg (s'.va y), iv 0]) ((aI (p := 4) (q := 5) (ty := 41) (by rfl) _ bU.o _ (by rfl) Tryz.underlying41 rfl (by kernel_rfl)).trans (by rfl)) rfl ?_; exact jS (eY.o) cj.o (kX.o) rfl
    have fJ : Hid ((aC s r).2 = 10) := ak (by
     rw [HF.o]; unfold iz; rw [if_neg (by rw [j_.o]; decide), if_neg I5.o, if_neg FI.o, if_neg HOW.o, if_neg (by rw [Jk.o]; decide), lD.o, if_pos (by
      have := HW.o; intro e; rw [IntKind.wrap_i64] at e
      omega)])
    go_upto_region 114 with (fail)
    apply wp_region_lit
    refine Go.Great.wpList_runTo rfl (some 501) rfl (.agg ZA) wl (by go_simp) ?_; refine aA rfl 41 _ _ rfl (g2 + 2) ZA ZL rfl rfl rfl (sG.o.fi).res rfl (by kernel_rfl) (by simp [Value.oneCell']) fun w5 hpt hov => ?_
    have bU := ak hpt; have cj := ak hov; clear hpt hov
    go_wp2_with fail
    refine bodyPost_ret (v := .tuple #[.agg ZA, iv 10]) ((aI (p := 4) (q := 5) (ty := 41) (by rfl) _ bU.o _ (by rfl) Tryz.underlying41 rfl (by kernel_rfl)).trans (by rfl)) rfl ?_; exact bC (sG.o.fi) cj.o (fJ.o) (by decide)
  have fJ : Hid ((aC s r).2 = 8) := ak (by
   rw [HF.o]; unfold iz; rw [if_neg (by rw [j_.o]; decide), if_neg I5.o, if_neg FI.o, if_pos (by unfold owns; rw [j_.o, lD.o, decide_eq_false hst]; rfl)])
  go_upto_region 110 with (fail)
  apply wp_region_lit
  refine Go.Great.wpList_runTo rfl (some 489) rfl (.agg ZA) wa (by go_simp) ?_; refine aA rfl 41 _ _ rfl (g2 + 2) ZA ZL rfl rfl rfl (iQ.o.fi).res rfl (by kernel_rfl) (by simp [Value.oneCell']) fun w5 hpt hov => ?_
  have bU := ak hpt; have cj := ak hov; clear hpt hov
  go_wp2_with fail
  refine bodyPost_ret (v := .tuple #[.agg ZA, iv 8]) ((aI (p := 4) (q := 5) (ty := 41) (by rfl) _ bU.o _ (by rfl) Tryz.underlying41 rfl (by kernel_rfl)).trans (by rfl)) rfl ?_; exact bC (iQ.o.fi) cj.o (fJ.o) (by decide)
