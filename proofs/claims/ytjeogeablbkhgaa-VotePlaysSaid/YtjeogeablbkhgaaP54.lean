/-
  P19.1: Whatever is voted, given up and acknowledged, in any order, a ballot answers and waits as the document says.
  Conditions: none.
-/
import Derived.Test.YtjeogeablbkhgaaP53
namespace Go.Proofs.Ytjeogeablbkhgaa.VotePlays
set_option maxRecDepth 100000
open Go.ChangeShapes Go.WideShapes Go.ChangeAt Go.RowKit Go.Deep Go.Proofs.Ytjeogeablbkhgaa.Mem Go.Proofs.Ytjeogeablbkhgaa.Item Go.Proofs.Ytjeogeablbkhgaa.Vot
set_option maxHeartbeats 16000000 in
theorem walk (t : Tid) (O : Option Addr) (ps : List Sd) (oc : Nat) (U : Option Addr) (os : List Opv) (uc : Nat) (w : World) (h : InParts w O ps) (hl : ps.length ≤ 140737488351232) (hu : Opvs w U os) (hul : os.length ≤ 140737488351232) :
  Calls Try.prog 3 #[.agg #[.int .i64 t.node, .int .i64 t.epoch, .int .i64 t.seq], .slice O ps.length oc, .slice U os.length uc] w fun e w' => e = .returned (.bool true) ∧ Below w.heap.size w w' := by
 obtain ⟨wa, hwa⟩ : ∃ W, W = w.alloc (.cells #[.int .i64 t.node, .int .i64 t.epoch, .int .i64 t.seq] 23) := ⟨_, rfl⟩
 have hba : Below w.heap.size w wa := by rw [hwa]; exact below_alloc _ _
 have hca : Cells wa w.heap.size 23 [.int .i64 t.node, .int .i64 t.epoch, .int .i64 t.seq] := by rw [hwa]; exact cells_new _ _ _ _ rfl
 have HAW := Lib.hid (awake_any wa)
 have HP := Lib.hid (fun W (hb : Below w.heap.size w W) => h.later hb)
 have HU := Lib.hid (fun W (hb : Below w.heap.size w W) => hu.later hb)
 have HUB : Hid (∀ o ∈ os, o.l ≠ [] → ∀ j, blk o.A = some j → j < w.heap.size) := Lib.hid fun o ho hne j e => irow_lt (hu.2 o ho).is hne e
 have HPB : Hid (∀ s ∈ ps, s.its ≠ [] → ∀ k, blk s.A = some k → k < w.heap.size) := Lib.hid fun s hs hne k e => by
  obtain ⟨b, off, e2, hi⟩ := (h.2 s hs).is 0 (List.length_pos_iff.2 hne)
  rw [e2] at e
  have e3 : b = k := Option.some.inj e
  rw [← e3]
  exact hi.lt
 have HBA := Lib.hid hba
 obtain ⟨nn, hn⟩ : ∃ n, ps.length = n := ⟨_, rfl⟩
 obtain ⟨nu, hnu⟩ : ∃ n, os.length = n := ⟨_, rfl⟩
 rw [hn] at hl ⊢
 rw [hnu] at hul ⊢
 have HN := Lib.hid (And.intro hn hnu)
 obtain ⟨tb, htb⟩ : ∃ b, w.heap.size = b := ⟨_, rfl⟩
 have HTBE : Hid (tb = w.heap.size) := Lib.hid htb.symm
 rw [htb] at hca
 have HCA0 := Lib.hid hca
 clear h hu hba hca hn hnu
 go_enter Try.func3, Try.ntmps3
 go_upto_region 1 with (fail)
 rw [← hwa]
 clear hwa htb
 go_wp2_with fail
 refine HAW.out.mono ?_
 rintro e w1 ⟨rfl, hb1⟩
 have HB1 := Lib.hid (HBA.out.trans (hb1.mono HBA.out.size))
 have HC1 := Lib.hid (HCA0.out.later hb1)
 clear hb1 HAW HBA HCA0
 have hgr := great_any (cap := oc) (HP.out w1 HB1.out) (by rw [HN.out.1]; exact hl)
 rw [HN.out.1] at hgr
 obtain ⟨gr, hgre⟩ : ∃ b, greatP ps = b := ⟨_, rfl⟩
 rw [hgre] at hgr
 have HGR := Lib.hid hgr
 have HGE := Lib.hid hgre
 clear hgr hgre
 go_wp2_with fail
 refine HGR.out.mono ?_
 rintro e w2 ⟨rfl, hb2⟩
 have HB2 := Lib.hid (HB1.out.trans (hb2.mono HB1.out.size))
 have hc2 := HC1.out.later hb2
 have y0 := hc2.cell (j := 0) rfl
 have y1 := hc2.cell (j := 1) rfl
 have y2 := hc2.cell (j := 2) rfl
 have HC2 := Lib.hid hc2
 clear hb2 hc2 HGR HB1 HC1
 cases gr with
 | true =>
  go_wp2_with fail
  go_returns
  exact ⟨rfl, HB2.out⟩
 | false =>
  obtain ⟨hn40, hpp, hfl⟩ := (HP.out w2 HB2.out).small HGE.out
  have HFL := Lib.hid hfl
  rw [HN.out.1] at hn40
  have HP40 : Hid (ps.length ≤ 40) := Lib.hid (by rw [HN.out.1]; exact hn40)
  have hnw := New_any (oc := oc) t hpp HP40.out hfl
  rw [HN.out.1] at hnw
  have HNW := Lib.hid hnw
  clear hpp hfl hnw
  by_cases h100 : 100 < nu
  ·have e1 : decide ((nu : Int) > 100) = true := decide_eq_true (by omega)
   go_wp2_with fail
   go_returns
   exact ⟨rfl, HB2.out⟩
  have e1 : decide ((nu : Int) > 100) = false := decide_eq_false (by omega)
  go_wp2_with fail
  refine (show Calls Try.prog 9 #[.agg #[.int .i64 t.node, .int .i64 t.epoch, .int .i64 t.seq], .slice O nn oc] _ _ from HNW.out).mono ?_
  rintro e we ⟨hb3, hbad, hok⟩
  have HB3 := Lib.hid (HB2.out.trans (hb3.mono HB2.out.size))
  have hc3 := HC2.out.later hb3
  have HTB : Hid (∀ W, Below we.heap.size we W → Cells W tb 23 [.int .i64 t.node, .int .i64 t.epoch, .int .i64 t.seq]) := Lib.hid fun W hb => hc3.later hb
  have HPLN : Hid (∀ W, Below we.heap.size we W → Calls Try.prog 11 #[.slice O nn oc] W fun e w' => (∃ V n vc, e = .returned (.slice V n vc) ∧ OwnG 70 4 Sd.vals W.heap.size w' (.slice V n vc) ps) ∧ Below W.heap.size W w') := Lib.hid fun W hb => by
   have h1 := plain_any (oc := oc) ((HP.out W (HB3.out.trans (hb.mono HB3.out.size))).small HGE.out).2.1 HP40.out HFL.out
   rw [HN.out.1] at h1
   exact h1
  have HNEWR : Hid (∀ W (Q : Option Addr) (c2 : Nat), Below we.heap.size we W → Sl W Q 4 (ps.map Sd.vals) → (Q = none → c2 = 0) → Calls Try.prog 10 #[.agg #[.int .i64 t.node, .int .i64 t.epoch, .int .i64 t.seq], .slice Q ps.length c2] W fun e w' => ∃ v, e = .returned v ∧ PlR we t ps v w' ∧ Below W.heap.size W w') := Lib.hid fun W Q c2 hb hs hq => by
   refine (RNew_any t hs hq ((HP.out W (HB3.out.trans (hb.mono HB3.out.size))).small HGE.out).2.1.2 HP40.out HFL.out).mono ?_
   rintro e w' ⟨r1, r2, r3⟩
   cases hk : (rightTid t && okParts ps) with
   | false => exact ⟨_, r2 hk, ⟨fun _ => rfl, fun e => by rw [hk] at e; cases e⟩, r1⟩
   | true =>
    obtain ⟨g, A, c, r4, r5⟩ := r3 hk
    exact ⟨_, r4, ⟨fun e => (by rw [hk] at e; cases e), fun _ => ⟨_, g, A, c, hb.size, rfl, r5⟩⟩, r1⟩
  obtain ⟨qq, hq⟩ : ∃ q, (rightTid t && okParts ps) = q := ⟨_, rfl⟩
  have HQ := Lib.hid hq
  rw [hq] at hbad hok
  clear hq HNW y0 y1 y2 hc3 HC2 h100 e1
  cases qq with
  | false =>
   have hb := hbad rfl
   subst hb
   clear hbad hok hb3
   go_upto_region 6 with (fail)
   refine Reg.region_inv (by kernel_rfl) (fun i => ([some (.agg #[.int .i64 t.node, .int .i64 t.epoch, .int .i64 t.seq]), some (.slice O nn oc), none, none, none] : List (Option Value)).getD i none) (fun D V W => Below we.heap.size we (W) ∧ ((D 2) = true → ∃ Qx nx cx, (V 2) = .slice Qx nx cx ∧ OwnG 70 4 Sd.vals we.heap.size (W) (.slice Qx nx cx) ps) ∧ ((D 3) = true → PlR we t ps (V 3) (W)) ∧ ((D 4) = true → (V 4) = (V 3) ∧ (D 3) = true)) (fun V => [(some 31, V 0), (some 32, V 1), (some 33, V 2), (some 34, V 3), (some 9, V 4)]) (by kernel_rfl) (by kernel_rfl) (fun V => rfl) ?_ ?_ ?_
   ·intro V
    exact ⟨(Below.refl _ _).drew, fun e => (by cases e), fun e => (by cases e), fun e => (by cases e)⟩
   ·intro i o ho
    have hi : i < 5 := (Array.getElem?_eq_some_iff.1 ho).1
    rcases i with _ | _ | _ | _ | _ | i
    rotate_right
    ·omega
    all_goals obtain rfl := Option.some.inj ho
    all_goals intro D V ρ wi hE hI hDi hT hF hs hd hk
    ·have e3 : ρ (.tmp 3) = .pointer (some ⟨tb, 0, none⟩) := hs 3; clear hT hF; have hq := HTB.out wi hI.1; have q0 := hq.cell (j := 0) rfl; have q1 := hq.cell (j := 1) rfl; have q2 := hq.cell (j := 2) rfl
     exact Reg.Gives.value (v := .agg #[.int .i64 t.node, .int .i64 t.epoch, .int .i64 t.seq]) (w' := wi) (by go_simp) ⟨fun x h => Option.some.inj h, hI⟩
    ·have e1 : ρ (.tmp 1) = .slice O nn oc := hs 1; clear hT hF hk
     exact Reg.Gives.value (v := .slice O nn oc) (w' := wi) (by go_simp) ⟨fun x h => Option.some.inj h, hI⟩
    ·have e32 : ρ (.tmp 32) = .slice O nn oc := (hd 1 32).trans (hk 1 _ rfl); have hf := hE.func; have hD3 : D 3 = false := hF 1 3; have hD4 : D 4 = false := hF 1 4; clear hT hF; obtain ⟨h1, h2, h3, h4⟩ := hI
     have hD4 : D 4 = false := by cases h : D 4 with | false => rfl | true => have := (h4 h).2; rw [hD3] at this; cases this
     refine Reg.Gives.call (f := 11) (args := #[.slice O nn oc]) (w' := wi) (by go_simp) ?_
     refine (show Calls Try.prog 11 #[.slice O nn oc] wi _ from (HPLN.out wi h1)).mono ?_
     rintro e w'' ⟨⟨Q, n2, c2, rfl, ho⟩, hb⟩
     exact ⟨_, rfl, fun x h => (by cases h), by show Below we.heap.size we (w'') ∧ ((true) = true → ∃ Qx nx cx, (Value.slice Q n2 c2) = .slice Qx nx cx ∧ OwnG 70 4 Sd.vals we.heap.size (w'') (.slice Qx nx cx) ps) ∧ ((D 3) = true → PlR we t ps (V 3) (w'')) ∧ ((D 4) = true → (V 4) = (V 3) ∧ (D 3) = true); rw [hD3, hD4]; exact ⟨h1.trans (hb.mono h1.size), fun _ => ⟨Q, n2, c2, rfl, OwnG.up h1.size ho⟩, fun e => (by cases e), fun e => (by cases e)⟩⟩
    ·have e31 : ρ (.tmp 31) = .agg #[.int .i64 t.node, .int .i64 t.epoch, .int .i64 t.seq] := (hd 0 31).trans (hk 0 _ rfl); have e33 : ρ (.tmp 33) = V 2 := hd 2 33; have hf := hE.func; have hD2 : D 2 = true := hT 1 2; have hD3 : D 3 = false := hDi; have hD4 : D 4 = false := hF 1 4; clear hT hF; obtain ⟨h1, h2, h3, h4⟩ := hI; obtain ⟨Q, n2, c2, hv, ho⟩ := h2 hD2
     have hD4 : D 4 = false := by cases h : D 4 with | false => rfl | true => have := (h4 h).2; rw [hD3] at this; cases this
     rw [hv] at e33
     obtain ⟨rfl, hsl⟩ := OwnG.sl fit_sd ho
     refine Reg.Gives.call (f := 10) (args := #[.agg #[.int .i64 t.node, .int .i64 t.epoch, .int .i64 t.seq], .slice Q ps.length c2]) (w' := wi) (by go_simp) ?_
     refine (show Calls Try.prog 10 #[.agg #[.int .i64 t.node, .int .i64 t.epoch, .int .i64 t.seq], .slice Q ps.length c2] wi _ from (HNEWR.out wi Q c2 h1 hsl (own_nilc ho))).mono ?_
     rintro e w'' ⟨v, rfl, hp, hb⟩
     exact ⟨_, rfl, fun x h => (by cases h), by show Below we.heap.size we (w'') ∧ ((D 2) = true → ∃ Qx nx cx, (V 2) = .slice Qx nx cx ∧ OwnG 70 4 Sd.vals we.heap.size (w'') (.slice Qx nx cx) ps) ∧ ((true) = true → PlR we t ps (v) (w'')) ∧ ((D 4) = true → (V 4) = (v) ∧ (true) = true); rw [hD2, hD4]; exact ⟨h1.trans (hb.mono h1.size), fun _ => ⟨Q, _, c2, hv, ho.later hb⟩, fun _ => hp, fun e => (by cases e)⟩⟩
    ·have e34 : ρ (.tmp 34) = V 3 := hd 3 34; have hD3 : D 3 = true := hT 1 3; clear hT hF
     exact Reg.Gives.value (v := V 3) (w' := wi) (by go_simp) ⟨fun x h => (by cases h), by show Below we.heap.size we (wi) ∧ ((D 2) = true → ∃ Qx nx cx, (V 2) = .slice Qx nx cx ∧ OwnG 70 4 Sd.vals we.heap.size (wi) (.slice Qx nx cx) ps) ∧ ((D 3) = true → PlR we t ps (V 3) (wi)) ∧ ((true) = true → (V 3) = (V 3) ∧ (D 3) = true); exact ⟨hI.1, hI.2.1, hI.2.2.1, fun _ => ⟨rfl, hD3⟩⟩⟩
   ·intro V wf hk hI
    simp only [Reg.putsO, List.foldl_cons, List.foldl_nil, Act.put, List.setIfInBounds_toArray, List.set_cons_succ, List.set_cons_zero]
    replace hI : Below we.heap.size we (wf) ∧ (true = true → ∃ Qx nx cx, (V 2) = .slice Qx nx cx ∧ OwnG 70 4 Sd.vals we.heap.size (wf) (.slice Qx nx cx) ps) ∧ (true = true → PlR we t ps (V 3) (wf)) ∧ (true = true → (V 4) = (V 3) ∧ true = true) := hI
    clear hk
    obtain ⟨i1, -, i3, i4⟩ := hI
    rw [(i4 rfl).1, (i3 rfl).1 HQ.out]
    have HBF := Lib.hid (HB3.out.trans (i1.mono HB3.out.size))
    clear i1 i3 i4
    go_wp2_with fail
    go_returns
    exact ⟨rfl, HBF.out⟩
  | true =>
   obtain ⟨g, A, c, l, rfl, hat, hlk, _⟩ := hok rfl
   have HAT := Lib.hid hat
   have HLK := Lib.hid hlk
   have HS23 := Lib.hid hb3.size
   clear hbad hok hb3 hat hlk
   go_upto_region 6 with (fail)
   refine Reg.region_inv (by kernel_rfl) (fun i => ([some (.agg #[.int .i64 t.node, .int .i64 t.epoch, .int .i64 t.seq]), some (.slice O nn oc), none, none, none] : List (Option Value)).getD i none) (fun D V W => Below we.heap.size we (W) ∧ ((D 2) = true → ∃ Qx nx cx, (V 2) = .slice Qx nx cx ∧ OwnG 70 4 Sd.vals we.heap.size (W) (.slice Qx nx cx) ps) ∧ ((D 3) = true → PlR we t ps (V 3) (W)) ∧ ((D 4) = true → (V 4) = (V 3) ∧ (D 3) = true)) (fun V => [(some 31, V 0), (some 32, V 1), (some 33, V 2), (some 34, V 3), (some 9, V 4)]) (by kernel_rfl) (by kernel_rfl) (fun V => rfl) ?_ ?_ ?_
   ·intro V
    exact ⟨(Below.refl _ _).drew, fun e => (by cases e), fun e => (by cases e), fun e => (by cases e)⟩
   ·intro i o ho
    have hi : i < 5 := (Array.getElem?_eq_some_iff.1 ho).1
    rcases i with _ | _ | _ | _ | _ | i
    rotate_right
    ·omega
    all_goals obtain rfl := Option.some.inj ho
    all_goals intro D V ρ wi hE hI hDi hT hF hs hd hk
    ·have e3 : ρ (.tmp 3) = .pointer (some ⟨tb, 0, none⟩) := hs 3; clear hT hF; have hq := HTB.out wi hI.1; have q0 := hq.cell (j := 0) rfl; have q1 := hq.cell (j := 1) rfl; have q2 := hq.cell (j := 2) rfl
     exact Reg.Gives.value (v := .agg #[.int .i64 t.node, .int .i64 t.epoch, .int .i64 t.seq]) (w' := wi) (by go_simp) ⟨fun x h => Option.some.inj h, hI⟩
    ·have e1 : ρ (.tmp 1) = .slice O nn oc := hs 1; clear hT hF hk
     exact Reg.Gives.value (v := .slice O nn oc) (w' := wi) (by go_simp) ⟨fun x h => Option.some.inj h, hI⟩
    ·have e32 : ρ (.tmp 32) = .slice O nn oc := (hd 1 32).trans (hk 1 _ rfl); have hf := hE.func; have hD3 : D 3 = false := hF 1 3; have hD4 : D 4 = false := hF 1 4; clear hT hF; obtain ⟨h1, h2, h3, h4⟩ := hI
     have hD4 : D 4 = false := by cases h : D 4 with | false => rfl | true => have := (h4 h).2; rw [hD3] at this; cases this
     refine Reg.Gives.call (f := 11) (args := #[.slice O nn oc]) (w' := wi) (by go_simp) ?_
     refine (show Calls Try.prog 11 #[.slice O nn oc] wi _ from (HPLN.out wi h1)).mono ?_
     rintro e w'' ⟨⟨Q, n2, c2, rfl, ho⟩, hb⟩
     exact ⟨_, rfl, fun x h => (by cases h), by show Below we.heap.size we (w'') ∧ ((true) = true → ∃ Qx nx cx, (Value.slice Q n2 c2) = .slice Qx nx cx ∧ OwnG 70 4 Sd.vals we.heap.size (w'') (.slice Qx nx cx) ps) ∧ ((D 3) = true → PlR we t ps (V 3) (w'')) ∧ ((D 4) = true → (V 4) = (V 3) ∧ (D 3) = true); rw [hD3, hD4]; exact ⟨h1.trans (hb.mono h1.size), fun _ => ⟨Q, n2, c2, rfl, OwnG.up h1.size ho⟩, fun e => (by cases e), fun e => (by cases e)⟩⟩
    ·have e31 : ρ (.tmp 31) = .agg #[.int .i64 t.node, .int .i64 t.epoch, .int .i64 t.seq] := (hd 0 31).trans (hk 0 _ rfl); have e33 : ρ (.tmp 33) = V 2 := hd 2 33; have hf := hE.func; have hD2 : D 2 = true := hT 1 2; have hD3 : D 3 = false := hDi; have hD4 : D 4 = false := hF 1 4; clear hT hF; obtain ⟨h1, h2, h3, h4⟩ := hI; obtain ⟨Q, n2, c2, hv, ho⟩ := h2 hD2
     have hD4 : D 4 = false := by cases h : D 4 with | false => rfl | true => have := (h4 h).2; rw [hD3] at this; cases this
     rw [hv] at e33
     obtain ⟨rfl, hsl⟩ := OwnG.sl fit_sd ho
     refine Reg.Gives.call (f := 10) (args := #[.agg #[.int .i64 t.node, .int .i64 t.epoch, .int .i64 t.seq], .slice Q ps.length c2]) (w' := wi) (by go_simp) ?_
     refine (show Calls Try.prog 10 #[.agg #[.int .i64 t.node, .int .i64 t.epoch, .int .i64 t.seq], .slice Q ps.length c2] wi _ from (HNEWR.out wi Q c2 h1 hsl (own_nilc ho))).mono ?_
     rintro e w'' ⟨v, rfl, hp, hb⟩
     exact ⟨_, rfl, fun x h => (by cases h), by show Below we.heap.size we (w'') ∧ ((D 2) = true → ∃ Qx nx cx, (V 2) = .slice Qx nx cx ∧ OwnG 70 4 Sd.vals we.heap.size (w'') (.slice Qx nx cx) ps) ∧ ((true) = true → PlR we t ps (v) (w'')) ∧ ((D 4) = true → (V 4) = (v) ∧ (true) = true); rw [hD2, hD4]; exact ⟨h1.trans (hb.mono h1.size), fun _ => ⟨Q, _, c2, hv, ho.later hb⟩, fun _ => hp, fun e => (by cases e)⟩⟩
    ·have e34 : ρ (.tmp 34) = V 3 := hd 3 34; have hD3 : D 3 = true := hT 1 3; clear hT hF
     exact Reg.Gives.value (v := V 3) (w' := wi) (by go_simp) ⟨fun x h => (by cases h), by show Below we.heap.size we (wi) ∧ ((D 2) = true → ∃ Qx nx cx, (V 2) = .slice Qx nx cx ∧ OwnG 70 4 Sd.vals we.heap.size (wi) (.slice Qx nx cx) ps) ∧ ((D 3) = true → PlR we t ps (V 3) (wi)) ∧ ((true) = true → (V 3) = (V 3) ∧ (D 3) = true); exact ⟨hI.1, hI.2.1, hI.2.2.1, fun _ => ⟨rfl, hD3⟩⟩⟩
   ·intro V wf hk hI
    simp only [Reg.putsO, List.foldl_cons, List.foldl_nil, Act.put, List.setIfInBounds_toArray, List.set_cons_succ, List.set_cons_zero]
    replace hI : Below we.heap.size we (wf) ∧ (true = true → ∃ Qx nx cx, (V 2) = .slice Qx nx cx ∧ OwnG 70 4 Sd.vals we.heap.size (wf) (.slice Qx nx cx) ps) ∧ (true = true → PlR we t ps (V 3) (wf)) ∧ (true = true → (V 4) = (V 3) ∧ true = true) := hI
    clear hk
    obtain ⟨i1, -, i3, i4⟩ := hI
    obtain ⟨B2, gr, Ar, cr, hB2, hv, hdat⟩ := (i3 rfl).2 HQ.out
    rw [(i4 rfl).1, hv]
    have HBF := Lib.hid (HB3.out.trans (i1.mono HB3.out.size))
    have HTBF : Hid (∀ W, Below wf.heap.size wf W → Cells W tb 23 [.int .i64 t.node, .int .i64 t.epoch, .int .i64 t.seq]) := Lib.hid fun W hb => HTB.out W (i1.trans (hb.mono i1.size))
    have hokp : okParts ps = true := by have h1 := HQ.out; rw [Bool.and_eq_true] at h1; exact h1.2
    have HSM0 := Lib.hid (ok_small hokp)
    obtain ⟨B1, hB1⟩ : ∃ b, w2.heap.size = b := ⟨_, rfl⟩
    obtain ⟨T1, hT1⟩ : ∃ b, we.heap.size = b := ⟨_, rfl⟩
    obtain ⟨T2, hT2⟩ : ∃ b, wf.heap.size = b := ⟨_, rfl⟩
    have hatf := HAT.out.later i1
    rw [hB1, hT1] at hatf
    rw [hT2] at hdat
    rw [hT1] at hB2
    have HT2E : Hid (wf.heap.size = T2 ∧ w.heap.size ≤ B1) := Lib.hid ⟨hT2, by rw [← hB1]; exact HB2.out.size⟩
    have HBO0 : Hid (Bo B1 T1 B2 T2 wf g A c gr Ar cr t false l (stC false ps) ps) := Lib.hid ⟨hatf, hdat, HLK.out, (HLK.out.st false).symm, hB2, fun s hs k e => by
     have hne : s.its ≠ [] := fun e0 => by
      unfold okParts at hokp
      rw [Bool.and_eq_true, Bool.and_eq_true] at hokp
      have h1 := hokp.1.1
      unfold okItems at h1
      rw [List.all_eq_true] at h1
      have h2 := h1 s hs
      rw [e0] at h2
      cases h2
     have := HPB.out s hs hne k e
     have := HT2E.out.2
     omega⟩
    clear i1 i3 i4 hv hdat hokp hB1 hT1 hT2 hatf hB2 HAT HLK HTB HPLN HNEWR HB3 HS23
    obtain ⟨we2, hwe2⟩ : ∃ W, wf = W := ⟨_, rfl⟩
    rw [hwe2] at HBF HTBF HT2E HBO0 ⊢
    clear hwe2 we wf
    obtain ⟨we, hwe2⟩ : ∃ W, we2 = W := ⟨_, rfl⟩
    rw [hwe2] at HBF HTBF HT2E HBO0 ⊢
    clear hwe2 we2
    have HTB := HTBF
    have HTID : Hid (∀ W, Below we.heap.size we W → Calls Try.prog 12 #[.pointer (some ⟨g, 0, none⟩)] W fun e w' => e = .returned (.agg #[.int .i64 t.node, .int .i64 t.epoch, .int .i64 t.seq]) ∧ Below W.heap.size W w') := Lib.hid fun W hb => Tid_any (HBO0.out.code.later hb)
    go_upto_region 9 with (fail)
    refine Reg.region_inv (by kernel_rfl) (fun i => ([some (.pointer (some ⟨g, 0, none⟩)), some (.bool false), some (.bool false), some (.int .i64 0), some (.bool false), some (.bool false), some (.bool false), some (.pointer (some ⟨g, 0, none⟩)), some (.agg #[.int .i64 t.node, .int .i64 t.epoch, .int .i64 t.seq]), some (.agg #[.int .i64 t.node, .int .i64 t.epoch, .int .i64 t.seq]), some (.bool false), some (.bool false)] : List (Option Value)).getD i none) (fun D V W => Below we.heap.size we W) (fun V => [(some 43, V 0), (some 44, V 1), (some 45, V 2), (some 46, V 3), (some 47, V 4), (some 48, V 5), (some 49, V 6), (some 50, V 7), (some 51, V 8), (some 52, V 9), (some 53, V 10), (some 54, V 11)]) (by kernel_rfl) (by kernel_rfl) (fun V => rfl) ?_ ?_ ?_
    ·intro V
     exact (Below.refl _ _).drew
    ·intro i o ho
     have hi : i < 12 := (Array.getElem?_eq_some_iff.1 ho).1
     rcases i with _ | _ | _ | _ | _ | _ | _ | _ | _ | _ | _ | _ | i
     rotate_right
     ·omega
     all_goals obtain rfl := Option.some.inj ho
     all_goals intro D V ρ wi hE hI hDi hT hF hs hd hk
     ·have e7 : ρ (.tmp 7) = .pointer (some ⟨g, 0, none⟩) := hs 7; clear hT hF hk
      exact Reg.Gives.value (v := .pointer (some ⟨g, 0, none⟩)) (w' := wi) (by go_simp) ⟨fun x h => Option.some.inj h, hI⟩
     ·have e43 : ρ (.tmp 43) = .pointer (some ⟨g, 0, none⟩) := (hd 0 43).trans (hk 0 _ rfl); have hc := hE.const; clear hT hF hk
      exact Reg.Gives.value (v := .bool false) (w' := wi) (by go_simp) ⟨fun x h => Option.some.inj h, hI⟩
     ·have e44 : ρ (.tmp 44) = .bool false := (hd 1 44).trans (hk 1 _ rfl); clear hT hF hk
      exact Reg.Gives.value (v := .bool false) (w' := wi) (by go_simp) ⟨fun x h => Option.some.inj h, hI⟩
     ·have e8 : ρ (.tmp 8) = .int .i64 0 := hs 8; have hgd : V 2 = .bool false := hk 2 _ rfl
      refine ⟨fun _ => ?_, fun h => absurd hgd h⟩
      clear hT hF hk
      exact Reg.Gives.value (v := .int .i64 0) (w' := wi) (by go_simp) ⟨fun x h => Option.some.inj h, hI⟩
     ·have e46 : ρ (.tmp 46) = .int .i64 0 := (hd 3 46).trans (hk 3 _ rfl); have hc := hE.const; have hgd : V 2 = .bool false := hk 2 _ rfl
      refine ⟨fun _ => ?_, fun h => absurd hgd h⟩
      clear hT hF hk
      exact Reg.Gives.value (v := .bool false) (w' := wi) (by go_simp) ⟨fun x h => Option.some.inj h, hI⟩
     ·have e45 : ρ (.tmp 45) = .bool false := (hd 2 45).trans (hk 2 _ rfl); have e47 : ρ (.tmp 47) = .bool false := (hd 4 47).trans (hk 4 _ rfl); have hc := hE.const; clear hT hF hk
      exact Reg.Gives.value (v := .bool false) (w' := wi) (by go_simp) ⟨fun x h => Option.some.inj h, hI⟩
     ·have e48 : ρ (.tmp 48) = .bool false := (hd 5 48).trans (hk 5 _ rfl); clear hT hF hk
      exact Reg.Gives.value (v := .bool false) (w' := wi) (by go_simp) ⟨fun x h => Option.some.inj h, hI⟩
     ·have e7 : ρ (.tmp 7) = .pointer (some ⟨g, 0, none⟩) := hs 7; have hgd : V 6 = .bool false := hk 6 _ rfl
      refine ⟨fun _ => ?_, fun h => absurd hgd h⟩
      clear hT hF hk
      exact Reg.Gives.value (v := .pointer (some ⟨g, 0, none⟩)) (w' := wi) (by go_simp) ⟨fun x h => Option.some.inj h, hI⟩
     ·have e50 : ρ (.tmp 50) = .pointer (some ⟨g, 0, none⟩) := (hd 7 50).trans (hk 7 _ rfl); have hf := hE.func; have hgd : V 6 = .bool false := hk 6 _ rfl
      refine ⟨fun _ => ?_, fun h => absurd hgd h⟩
      clear hT hF
      refine Reg.Gives.call (f := 12) (args := #[.pointer (some ⟨g, 0, none⟩)]) (w' := wi) (by go_simp) ?_
      refine (show Calls Try.prog 12 #[.pointer (some ⟨g, 0, none⟩)] wi _ from (HTID.out wi hI)).mono ?_
      rintro e w'' ⟨rfl, hb⟩
      exact ⟨_, rfl, fun x h => Option.some.inj h, hI.trans (hb.mono hI.size)⟩
     ·have e3 : ρ (.tmp 3) = .pointer (some ⟨tb, 0, none⟩) := hs 3; have hgd : V 6 = .bool false := hk 6 _ rfl
      refine ⟨fun _ => ?_, fun h => absurd hgd h⟩
      clear hT hF; have hq := HTB.out wi hI; have q0 := hq.cell (j := 0) rfl; have q1 := hq.cell (j := 1) rfl; have q2 := hq.cell (j := 2) rfl
      exact Reg.Gives.value (v := .agg #[.int .i64 t.node, .int .i64 t.epoch, .int .i64 t.seq]) (w' := wi) (by go_simp) ⟨fun x h => Option.some.inj h, hI⟩
     ·have e51 : ρ (.tmp 51) = .agg #[.int .i64 t.node, .int .i64 t.epoch, .int .i64 t.seq] := (hd 8 51).trans (hk 8 _ rfl); have e52 : ρ (.tmp 52) = .agg #[.int .i64 t.node, .int .i64 t.epoch, .int .i64 t.seq] := (hd 9 52).trans (hk 9 _ rfl); have hgd : V 6 = .bool false := hk 6 _ rfl
      refine ⟨fun _ => ?_, fun h => absurd hgd h⟩
      clear hT hF
      exact Reg.Gives.value (v := .bool false) (w' := wi) (exec_bin .neq 23 _ _ _ rfl _ _ e51 e52 (by kernel_rfl) (tid_neq t wi)) ⟨fun x h => Option.some.inj h, hI⟩
     ·have e49 : ρ (.tmp 49) = .bool false := (hd 6 49).trans (hk 6 _ rfl); have e53 : ρ (.tmp 53) = .bool false := (hd 10 53).trans (hk 10 _ rfl); have hc := hE.const; clear hT hF hk
      exact Reg.Gives.value (v := .bool false) (w' := wi) (by go_simp) ⟨fun x h => Option.some.inj h, hI⟩
    ·intro V wf hk hI
     have hV11 : V 11 = .bool false := hk 11 (by show _ < 12; decide) _ rfl
     simp only [Reg.putsO, List.foldl_cons, List.foldl_nil, Act.put, List.setIfInBounds_toArray, List.set_cons_succ, List.set_cons_zero, hV11]
     replace hI : Below we.heap.size we wf := hI
     clear hk hV11
     have hlow : Below we.heap.size we wf := hI
     have HBO1 := Lib.hid (HBO0.out.later hlow)
     have HB1 := Lib.hid (HBF.out.trans (hlow.mono HBF.out.size))
     have HTW : Hid (T2 ≤ wf.heap.size) := Lib.hid (by have := HT2E.out.1; have := hlow.size; omega)
     clear hI hlow HTID HTB HTBF HBO0 HBF
     go_wp2_with fail
     go_loopw [10, 11, 12, 13, 15] (fun i _ _ _ _ wr => ∃ (z : Int) (ab : Bool) (l m : List Sd) (s : Int), i = .int .i64 z ∧ -1 ≤ z ∧ z ≤ (nu : Int) ∧ Hid (Bo B1 T1 B2 T2 wr g A c gr Ar cr t ab l s m) ∧ Hid (Small m ∧ m.length = nn) ∧ Hid (Below w.heap.size w wr ∧ T2 ≤ wr.heap.size)) (fun i _ _ _ _ _ => ((nu : Int) - intOf i).toNat)
     case atStart => exact ⟨-1, false, l, ps, _, rfl, by omega, by omega, HBO1, Lib.hid ⟨HSM0.out, HN.out.1⟩, Lib.hid ⟨HB1.out, HTW.out⟩⟩
     case round =>
      clear HBO1 HSM0 HB1 HTW
      obtain ⟨z, ab, l, m, s, rfl, hz1, hz2, HBO, HSMN, HB⟩ := hrel
      have HSM := Lib.hid HSMN.out.1
      by_cases hzn : z < (nu : Int)
      ·have e0 : decide (z < (nu : Int)) = true := decide_eq_true hzn
       obtain ⟨wb, hwb⟩ : ∃ W, W = wr.alloc (.cells #[.int .i64 (-1), .int .i64 0, .bool false, .slice none 0 0] 39) := ⟨_, rfl⟩
       have hbb : Below wr.heap.size wr wb := by rw [hwb]; exact below_alloc _ _
       have hcb : Cells wb wr.heap.size 39 [.int .i64 (-1), .int .i64 0, .bool false, .slice none 0 0] := by rw [hwb]; exact cells_new _ _ _ _ rfl
       obtain ⟨xb, hxb⟩ : ∃ x, wr.heap.size = x := ⟨_, rfl⟩
       rw [hxb] at hcb
       have HXB : Hid (T2 ≤ xb ∧ xb < wb.heap.size ∧ w.heap.size ≤ xb) := Lib.hid ⟨by rw [← hxb]; exact HB.out.2, hcb.lt, by rw [← hxb]; exact HB.out.1.size⟩
       have HBB := Lib.hid (HB.out.1.trans (hbb.mono HB.out.1.size))
       have HBOB := Lib.hid (HBO.out.later hbb)
       have HCB := Lib.hid hcb
       clear hbb hcb HBO HB
       go_upto_region 15 with (fail)
       rw [← hwb]
       clear hwb hxb
       obtain ⟨b0, hb0⟩ : ∃ b, decide (z ≥ 0) = b := ⟨_, rfl⟩
       go_cut [63] from 62 to 62 (fun v wx => v = .bool b0 ∧ wx = wb)
       case first =>
        go_wp2_with fail
        go_meet
        exact ⟨rfl, rfl⟩
       obtain ⟨rfl, hwr⟩ := hcut
       rw [hwr]
       clear hwr
       apply_assumption
       go_cut [] from 64 to 67 (fun wx => ∃ o : Opv, Hid (Cells wx xb 39 o.vals) ∧ Hid ((∀ W, Below w.heap.size w W → IRow W o.A o.l) ∧ (o.l ≠ [] → ∀ j, blk o.A = some j → j < w.heap.size)) ∧ Hid (Bo B1 T1 B2 T2 wx g A c gr Ar cr t ab l s m) ∧ Hid (Below w.heap.size w wx ∧ xb < wx.heap.size) ∧ o.l.length ≤ 140737488351232)
       case first =>
        cases b0 with
        | false =>
         go_wp2_with fail
         go_meet
         exact ⟨⟨-1, 0, false, none, 0, []⟩, HCB, Lib.hid ⟨fun W _ => IRow.nil _ _, fun e => absurd rfl e⟩, HBOB, Lib.hid ⟨HBB.out, HXB.out.2.1⟩, Nat.zero_le _⟩
        | true =>
         have hz0 : 0 ≤ z := of_decide_eq_true hb0
         obtain ⟨k, hk⟩ : ∃ k : Nat, z = (k : Int) := ⟨z.toNat, by omega⟩
         subst hk
         have hkn : k < nu := by omega
         have hkl : k < os.length := by rw [HN.out.2]; exact hkn
         obtain ⟨ug, uo, rfl, hr⟩ := (HU.out wb HBB.out).at hkl
         have hM := List.getElem_mem hkl
         obtain ⟨o, ho⟩ : ∃ o, os[k] = o := ⟨_, rfl⟩
         rw [ho] at hr hM
         have HM := Lib.hid hM
         have HOL := Lib.hid (((HU.out wb HBB.out).2 o hM).len)
         unfold Opv.vals at hr
         have x0 : wb.cell? ⟨ug, uo + k * 4, none⟩ = _ := hr 0 _ rfl
         have x1 := hr 1 _ rfl
         have x2 := hr 2 _ rfl
         have x3 := hr 3 _ rfl
         have z0 := HCB.out.cell (j := 0) rfl
         have z1 := HCB.out.cell (j := 1) rfl
         have z2 := HCB.out.cell (j := 2) rfl
         have z3 := HCB.out.cell (j := 3) rfl
         have f0 := HCB.out.frozen (j := 0) (by simp)
         have f1 := HCB.out.frozen (j := 1) (by simp)
         have f2 := HCB.out.frozen (j := 2) (by simp)
         have f3 := HCB.out.frozen (j := 3) (by simp)
         obtain ⟨q0, hq0⟩ : ∃ q, o.l.length = q := ⟨_, rfl⟩
         rw [hq0] at x3
         have HF : Hid (Cells ((((wb.setCell ⟨xb, 0, none⟩ (.int .i64 o.k)).setCell ⟨xb, 1, none⟩ (.int .i64 o.n)).setCell ⟨xb, 2, none⟩ (.bool o.y)).setCell ⟨xb, 3, none⟩ (.slice o.A q0 o.ac)) xb 39 o.vals) := Lib.hid (by
          have h1 := (((HCB.out.set_ 0 (.int .i64 o.k)).set_ 1 (.int .i64 o.n)).set_ 2 (.bool o.y)).set_ 3 (.slice o.A q0 o.ac)
          rw [← hq0] at h1 ⊢
          exact h1)
         have HO : Hid (Only (fun i => i = xb) wb ((((wb.setCell ⟨xb, 0, none⟩ (.int .i64 o.k)).setCell ⟨xb, 1, none⟩ (.int .i64 o.n)).setCell ⟨xb, 2, none⟩ (.bool o.y)).setCell ⟨xb, 3, none⟩ (.slice o.A q0 o.ac))) := Lib.hid ((((Only.of_set wb ⟨xb, 0, none⟩ _).trans (Only.of_set _ ⟨xb, 1, none⟩ _) fun _ _ e => e).trans (Only.of_set _ ⟨xb, 2, none⟩ _) fun _ _ e => e).trans (Only.of_set _ ⟨xb, 3, none⟩ _) fun _ _ e => e)
         clear hkl hr hM ho hq0 hb0 hz0
         go_wp2_with fail
         go_meet
         exact ⟨o, HF, Lib.hid ⟨fun W hb => ((HU.out W hb).2 o HM.out).is, HUB.out o HM.out⟩, Lib.hid (HBOB.out.aside HO.out HXB.out.1), Lib.hid ⟨HBB.out.trans (HO.out.below HBB.out.size fun i e => by have := HXB.out; omega), Nat.lt_of_lt_of_le HXB.out.2.1 HO.out.size⟩, HOL.out⟩
       obtain ⟨o, HC, HOI, HBO, HB, hol⟩ := hcut
       clear HCB HBB HBOB hb0
       apply_assumption
       obtain ⟨wx, hwx⟩ : ∃ W, wc = W := ⟨_, rfl⟩
       rw [hwx] at HC HBO HB ⊢
       clear hwx
       obtain ⟨okk, on, oy, oA, oac, ol⟩ := o
       obtain ⟨lq, hlq⟩ : ∃ q, ol.length = q := ⟨_, rfl⟩
       have HLQ := Lib.hid hlq
       unfold Opv.vals at HC
       dsimp only at HC HOI hol
       rw [hlq] at HC hol
       clear hlq
       have y3 := HC.out.cell (j := 3) rfl
       by_cases hgr : 40 < lq
       ·have e3 : decide ((lq : Int) > 40) = true := decide_eq_true (by omega)
        go_wp2_with fail
        go_returns
        exact ⟨rfl, HB.out.1⟩
       have e3 : decide ((lq : Int) > 40) = false := decide_eq_false (by omega)
       have hlq40 : lq ≤ 40 := by omega
       have x4 := HBO.out.doc.box.cell (j := 4) rfl
       clear hgr
       go_wp2_with fail
       go_quiet (fail)
       generalize hdr : World.drewN wx _ = we
       have hbd : Below wx.heap.size wx we := by rw [← hdr]; exact below_dr _ _
       have HBE := Lib.hid (HBO.out.later hbd)
       have HCE := Lib.hid (HC.out.later hbd)
       have HBW : Hid (Below w.heap.size w we ∧ xb < we.heap.size) := Lib.hid ⟨HB.out.1.trans (hbd.mono HB.out.1.size), Nat.lt_of_lt_of_le HB.out.2 hbd.size⟩
       clear y3 x4 hdr hbd HBO HC HB e3
       have HFT : Hid (∀ k, (foot g A k ∨ foot gr Ar k) → w.heap.size ≤ k ∧ k < xb) := Lib.hid fun k e => by
        have h1 := HXB.out
        have h2 := HT2E.out
        have h3 := HBE.out.ti
        have h4 := HBE.out.doc.low
        have h5 := HBE.out.code.low
        rcases e with e | e
        ·have := HBE.out.code.foot_in k e; omega
        ·have := HBE.out.doc.foot_in k e; omega
       have HBX : Hid (∀ wx, Only (fun k => foot g A k ∨ foot gr Ar k) we wx → Cells wx xb 39 [.int .i64 okk, .int .i64 on, .bool oy, .slice oA lq oac] ∧ Below w.heap.size w wx ∧ xb < wx.heap.size) := Lib.hid fun wx ho => ⟨cells_only HCE.out ho fun e => (by have := HFT.out _ e; omega), HBW.out.1.trans (ho.below HBW.out.1.size fun k e => (HFT.out k e).1), Nat.lt_of_lt_of_le HBW.out.2 ho.size⟩
       have y0 := HCE.out.cell (j := 0) rfl
       go_upto_block 2 with fail
       clear y0
       go_cut [12, 13, 15] from 82 to 140 (fun a b _ wx => ∃ (er : Int) (ab' : Bool) (l' m' : List Sd) (s' : Int), a = .int .i64 er ∧ b = .int .i64 er ∧ Hid (Bo B1 T1 B2 T2 wx g A c gr Ar cr t ab' l' s' m') ∧ Hid (Small m' ∧ m'.length = nn) ∧ Hid (Cells wx xb 39 [.int .i64 okk, .int .i64 on, .bool oy, .slice oA lq oac]) ∧ Hid (Below w.heap.size w wx ∧ xb < wx.heap.size))
       case first =>
        by_cases k0 : okk = 0
        ·have f0 : (okk == 0) = true := by simp [k0]
         have hbo := HBE.out
         have hlk := hbo.like
         obtain ⟨ab1, hab1⟩ : ∃ b, Vot.voteA ab (stC ab l) on oy l = b := ⟨_, rfl⟩
         obtain ⟨l1, hl1⟩ : ∃ b, voteL (stC ab l) on oy l = b := ⟨_, rfl⟩
         obtain ⟨m1, hm1⟩ : ∃ b, voteL s on oy m = b := ⟨_, rfl⟩
         obtain ⟨s1, hs1⟩ : ∃ b, Vot.voteS s on oy m = b := ⟨_, rfl⟩
         obtain ⟨er, her⟩ : ∃ b, Vot.voteS (stC ab l) on oy l = b := ⟨_, rfl⟩
         have hers : s1 = er := by rw [← hs1, ← her, ← hlk.voteS, hbo.st]
         have HFIN : Hid (Like l1 m1 ∧ s1 = stC ab1 l1 ∧ Small m1 ∧ m1.length = nn) := Lib.hid ⟨by rw [← hl1, ← hm1, hbo.st]; exact hlk.vote _ _ _, by rw [hers, ← her, ← hab1, ← hl1]; exact voteS_eq _ _ _ _, ⟨by rw [← hm1]; exact HSM.out.vote _ _ _, by rw [← hm1, voteL_len]; exact HSMN.out.2⟩⟩
         have HM1 : Hid (Its (fun k => k < B1) m1) := Lib.hid (by rw [← hm1]; exact hbo.its.vote _ _ _)
         have HCC : Hid (∀ wi (dj : Bool), Mi B1 T1 B2 T2 we g A c gr Ar cr t ab l ab1 l1 s m s1 m1 false dj wi → Calls Try.prog 13 #[.pointer (some ⟨g, 0, none⟩), .int .i64 on, .bool oy] wi fun e w' => e = .returned (.int .i64 er) ∧ Mi B1 T1 B2 T2 we g A c gr Ar cr t ab l ab1 l1 s m s1 m1 true dj w') := Lib.hid fun wi dj hm => by
          have hc0 : CAt B1 T1 wi g A c t ab l := hm.code
          refine (Vote_any hc0 on oy).mono ?_
          rintro e w' ⟨rfl, hc, ho⟩
          rw [hab1, hl1] at hc
          exact ⟨by rw [her], hm.doneC hc ho⟩
         have HCR : Hid (∀ wi (di : Bool), Mi B1 T1 B2 T2 we g A c gr Ar cr t ab l ab1 l1 s m s1 m1 di false wi → Calls Try.prog 14 #[.pointer (some ⟨gr, 0, none⟩), .int .i64 on, .bool oy] wi fun e w' => e = .returned (.int .i64 er) ∧ Mi B1 T1 B2 T2 we g A c gr Ar cr t ab l ab1 l1 s m s1 m1 di true w') := Lib.hid fun wi di hm => by
          have hc0 : DAt B2 T2 wi gr Ar cr t s m := hm.doc
          refine (RVote_any hc0 on oy).mono ?_
          rintro e w' ⟨rfl, hc, ho⟩
          rw [hs1, hm1] at hc
          exact ⟨by rw [hs1, hers], hm.doneR hc ho⟩
         have HBO := HBE
         clear k0 hbo hlk hab1 hl1 hm1 hs1 her hers
         have HBXO := HBX
         have HBX : Hid (∀ wx, Only (fun k => foot g A k ∨ foot gr Ar k) we wx → Cells wx xb 39 [.int .i64 okk, .int .i64 on, .bool oy, .slice oA lq oac]) := Lib.hid fun wx ho => (HBXO.out wx ho).1
         go_upto_region 22 with (fail)
         refine Reg.region_inv (by kernel_rfl) (fun i => ([some (.pointer (some ⟨g, 0, none⟩)), some (.pointer (some ⟨xb, 1, none⟩)), some (.int .i64 on), some (.pointer (some ⟨xb, 2, none⟩)), some (.bool oy), some (.int .i64 er), some (.pointer (some ⟨gr, 0, none⟩)), some (.pointer (some ⟨xb, 1, none⟩)), some (.int .i64 on), some (.pointer (some ⟨xb, 2, none⟩)), some (.bool oy), some (.int .i64 er), some (.int .i64 er), some (.int .i64 er)] : List (Option Value)).getD i none) (fun D V W => Mi B1 T1 B2 T2 we g A c gr Ar cr t ab l ab1 l1 s m s1 m1 (D 5) (D 11) (W)) (fun V => [(some 84, V 0), (some 85, V 1), (some 86, V 2), (some 87, V 3), (some 88, V 4), (some 89, V 5), (some 90, V 6), (some 91, V 7), (some 92, V 8), (some 93, V 9), (some 94, V 10), (some 95, V 11), (some 12, V 12), (some 13, V 13)]) (by kernel_rfl) (by kernel_rfl) (fun V => rfl) ?_ ?_ ?_
         ·intro V
          exact HBO.out.mi HM1.out (Below.refl _ _).drew
         ·intro i o ho
          have hi : i < 14 := (Array.getElem?_eq_some_iff.1 ho).1
          rcases i with _ | _ | _ | _ | _ | _ | _ | _ | _ | _ | _ | _ | _ | _ | i
          rotate_right
          ·omega
          all_goals obtain rfl := Option.some.inj ho
          all_goals intro D V ρ wi hE hI hDi hT hF hs hd hk
          ·have e7 : ρ (.tmp 7) = .pointer (some ⟨g, 0, none⟩) := hs 7; clear hT hF hk
           exact Reg.Gives.value (v := .pointer (some ⟨g, 0, none⟩)) (w' := wi) (by go_simp) ⟨fun x h => Option.some.inj h, hI⟩
          ·have e11 : ρ (.tmp 11) = .pointer (some ⟨xb, 0, none⟩) := hs 11; clear hT hF hk
           exact Reg.Gives.value (v := .pointer (some ⟨xb, 1, none⟩)) (w' := wi) (by go_simp) ⟨fun x h => Option.some.inj h, hI⟩
          ·have e85 : ρ (.tmp 85) = .pointer (some ⟨xb, 1, none⟩) := (hd 1 85).trans (hk 1 _ rfl); clear hT hF; have hq := HBX.out wi hI.only; have q1 := hq.cell (j := 1) rfl
           exact Reg.Gives.value (v := .int .i64 on) (w' := wi) (by go_simp) ⟨fun x h => Option.some.inj h, hI⟩
          ·have e11 : ρ (.tmp 11) = .pointer (some ⟨xb, 0, none⟩) := hs 11; clear hT hF hk
           exact Reg.Gives.value (v := .pointer (some ⟨xb, 2, none⟩)) (w' := wi) (by go_simp) ⟨fun x h => Option.some.inj h, hI⟩
          ·have e87 : ρ (.tmp 87) = .pointer (some ⟨xb, 2, none⟩) := (hd 3 87).trans (hk 3 _ rfl); clear hT hF; have hq := HBX.out wi hI.only; have q2 := hq.cell (j := 2) rfl
           exact Reg.Gives.value (v := .bool oy) (w' := wi) (by go_simp) ⟨fun x h => Option.some.inj h, hI⟩
          ·have e84 : ρ (.tmp 84) = .pointer (some ⟨g, 0, none⟩) := (hd 0 84).trans (hk 0 _ rfl); have e86 : ρ (.tmp 86) = .int .i64 on := (hd 2 86).trans (hk 2 _ rfl); have e88 : ρ (.tmp 88) = .bool oy := (hd 4 88).trans (hk 4 _ rfl); have hf := hE.func; have hD5 : D 5 = false := hDi; clear hT hF
           rw [hD5] at hI
           refine Reg.Gives.call (f := 13) (args := #[.pointer (some ⟨g, 0, none⟩), .int .i64 on, .bool oy]) (w' := wi) (by go_simp) ?_
           refine (show Calls Try.prog 13 #[.pointer (some ⟨g, 0, none⟩), .int .i64 on, .bool oy] wi _ from (HCC.out wi _ hI)).mono ?_
           rintro e w'' ⟨rfl, hn⟩
           exact ⟨_, rfl, fun x h => Option.some.inj h, by show Mi B1 T1 B2 T2 we g A c gr Ar cr t ab l ab1 l1 s m s1 m1 (true) (D 11) (w''); exact hn⟩
          ·have e9 : ρ (.tmp 9) = .pointer (some ⟨gr, 0, none⟩) := hs 9; clear hT hF hk
           exact Reg.Gives.value (v := .pointer (some ⟨gr, 0, none⟩)) (w' := wi) (by go_simp) ⟨fun x h => Option.some.inj h, hI⟩
          ·have e11 : ρ (.tmp 11) = .pointer (some ⟨xb, 0, none⟩) := hs 11; clear hT hF hk
           exact Reg.Gives.value (v := .pointer (some ⟨xb, 1, none⟩)) (w' := wi) (by go_simp) ⟨fun x h => Option.some.inj h, hI⟩
          ·have e91 : ρ (.tmp 91) = .pointer (some ⟨xb, 1, none⟩) := (hd 7 91).trans (hk 7 _ rfl); clear hT hF; have hq := HBX.out wi hI.only; have q1 := hq.cell (j := 1) rfl
           exact Reg.Gives.value (v := .int .i64 on) (w' := wi) (by go_simp) ⟨fun x h => Option.some.inj h, hI⟩
          ·have e11 : ρ (.tmp 11) = .pointer (some ⟨xb, 0, none⟩) := hs 11; clear hT hF hk
           exact Reg.Gives.value (v := .pointer (some ⟨xb, 2, none⟩)) (w' := wi) (by go_simp) ⟨fun x h => Option.some.inj h, hI⟩
          ·have e93 : ρ (.tmp 93) = .pointer (some ⟨xb, 2, none⟩) := (hd 9 93).trans (hk 9 _ rfl); clear hT hF; have hq := HBX.out wi hI.only; have q2 := hq.cell (j := 2) rfl
           exact Reg.Gives.value (v := .bool oy) (w' := wi) (by go_simp) ⟨fun x h => Option.some.inj h, hI⟩
          ·have e90 : ρ (.tmp 90) = .pointer (some ⟨gr, 0, none⟩) := (hd 6 90).trans (hk 6 _ rfl); have e92 : ρ (.tmp 92) = .int .i64 on := (hd 8 92).trans (hk 8 _ rfl); have e94 : ρ (.tmp 94) = .bool oy := (hd 10 94).trans (hk 10 _ rfl); have hf := hE.func; have hD11 : D 11 = false := hDi; clear hT hF
           rw [hD11] at hI
           refine Reg.Gives.call (f := 14) (args := #[.pointer (some ⟨gr, 0, none⟩), .int .i64 on, .bool oy]) (w' := wi) (by go_simp) ?_
           refine (show Calls Try.prog 14 #[.pointer (some ⟨gr, 0, none⟩), .int .i64 on, .bool oy] wi _ from (HCR.out wi _ hI)).mono ?_
           rintro e w'' ⟨rfl, hn⟩
           exact ⟨_, rfl, fun x h => Option.some.inj h, by show Mi B1 T1 B2 T2 we g A c gr Ar cr t ab l ab1 l1 s m s1 m1 (D 5) (true) (w''); exact hn⟩
          ·have e89 : ρ (.tmp 89) = .int .i64 er := (hd 5 89).trans (hk 5 _ rfl); clear hT hF hk
           exact Reg.Gives.value (v := .int .i64 er) (w' := wi) (by go_simp) ⟨fun x h => Option.some.inj h, hI⟩
          ·have e95 : ρ (.tmp 95) = .int .i64 er := (hd 11 95).trans (hk 11 _ rfl); clear hT hF hk
           exact Reg.Gives.value (v := .int .i64 er) (w' := wi) (by go_simp) ⟨fun x h => Option.some.inj h, hI⟩
         ·intro V wf hk hI
          have hV12 : V 12 = .int .i64 er := hk 12 (by show _ < 14; decide) _ rfl
          have hV13 : V 13 = .int .i64 er := hk 13 (by show _ < 14; decide) _ rfl
          simp only [Reg.putsO, List.foldl_cons, List.foldl_nil, Act.put, List.setIfInBounds_toArray, List.set_cons_succ, List.set_cons_zero, hV12, hV13]
          replace hI : Mi B1 T1 B2 T2 we g A c gr Ar cr t ab l ab1 l1 s m s1 m1 true true (wf) := hI
          clear hk hV12 hV13
          have hM : Mi B1 T1 B2 T2 we g A c gr Ar cr t ab l ab1 l1 s m s1 m1 true true wf := hI
          have HBF : Hid (Bo B1 T1 B2 T2 wf g A c gr Ar cr t ab1 l1 s1 m1) := Lib.hid ⟨hM.code, hM.doc, HFIN.out.1, HFIN.out.2.1, hM.ti, HM1.out⟩
          have HXF := Lib.hid (HBXO.out wf hM.only)
          clear hI hM HCC HCR
          go_wp2_with fail
          go_meet
          exact ⟨er, ab1, l1, m1, s1, rfl, rfl, HBF, Lib.hid HFIN.out.2.2, Lib.hid HXF.out.1, Lib.hid HXF.out.2⟩
        ·have f0 : (okk == 0) = false := by simpa using k0
         by_cases k1 : okk = 1
         ·have f1 : (okk == 1) = true := by simp [k1]
          have x4 := HBE.out.doc.box.cell (j := 4) rfl
          obtain ⟨bz, hbz⟩ : ∃ b, (s == 0) = b := ⟨_, rfl⟩
          obtain ⟨s1, hs1⟩ : ∃ b, giveS s = b := ⟨_, rfl⟩
          obtain ⟨ab1, hab1⟩ : ∃ b, giveA ab l = b := ⟨_, rfl⟩
          clear k0 k1
          go_upto_region 24 with (fail)
          go_cut [102] from 98 to 101 (fun v wx => v = .bool bz ∧ wx = we)
          case first =>
           go_wp2_with fail
           go_meet
           exact ⟨rfl, rfl⟩
          obtain ⟨rfl, hwr⟩ := hcut
          rw [hwr]
          clear hwr x4
          apply_assumption
          go_cut [] from 103 to 105 (fun wx => Hid (DAt B2 T2 wx gr Ar cr t s1 m ∧ Only (foot gr Ar) we wx))
          case first =>
           cases bz with
           | true =>
            have hs0 : s = 0 := by simpa using hbz
            have hs2 : s1 = 2 := by rw [← hs1, hs0]; rfl
            obtain ⟨hA3, ho3⟩ := HBE.out.doc.setZ (.int .i64 2)
            have f4 := HBE.out.doc.box.frozen (j := 4) (by simp)
            have x4 := HBE.out.doc.box.cell (j := 4) rfl
            rw [← hs2] at hA3 ho3
            have HA3 : Hid (DAt B2 T2 (we.setCell ⟨gr, 4, none⟩ (.int .i64 2)) gr Ar cr t s1 m ∧ Only (foot gr Ar) we (we.setCell ⟨gr, 4, none⟩ (.int .i64 2))) := Lib.hid (by rw [hs2] at hA3 ho3 ⊢; exact ⟨hA3, ho3.mono fun k _ e => Or.inl e⟩)
            clear hbz hs0 hs2 hA3 ho3 hs1
            go_wp2_with fail
            go_meet
            exact HA3
           | false =>
            have hs2 : s1 = s := by rw [← hs1]; unfold giveS; rw [if_neg (by simpa using hbz)]
            have HA3 : Hid (DAt B2 T2 we gr Ar cr t s1 m ∧ Only (foot gr Ar) we we) := Lib.hid (by rw [hs2]; exact ⟨HBE.out.doc, Only.of_below (Below.refl _ _)⟩)
            clear hbz hs2 hs1
            go_wp2_with fail
            go_meet
            exact HA3
          clear hbz
          apply_assumption
          obtain ⟨wd, hwd⟩ : ∃ W, we = W := ⟨_, rfl⟩
          rw [hwd] at HBE HBX HBW HCE hcut
          clear hwd we
          obtain ⟨we, hwe2⟩ : ∃ W, wc = W := ⟨_, rfl⟩
          rw [hwe2] at hcut ⊢
          clear hwe2
          have HOD : Hid (Only (fun k => foot g A k ∨ foot gr Ar k) wd we) := Lib.hid (hcut.out.2.mono fun k _ e => Or.inr e)
          have HMI : Hid (Mi B1 T1 B2 T2 we g A c gr Ar cr t ab l ab1 l s1 m s1 m false true we) := Lib.hid ⟨Only.of_below (Below.refl _ _), HBE.out.code.keep2 hcut.out.2 (fun k e => by have := hcut.out.1.foot_in k e; have := HBE.out.ti; omega), hcut.out.1, HBE.out.ti, HBE.out.its, HBE.out.its⟩
          have HFIN : Hid (s1 = stC ab1 l) := Lib.hid (by rw [← hs1, ← hab1, HBE.out.st]; exact giveS_eq _ _)
          have HCC : Hid (∀ wi, Mi B1 T1 B2 T2 we g A c gr Ar cr t ab l ab1 l s1 m s1 m false true wi → Calls Try.prog 15 #[.pointer (some ⟨g, 0, none⟩)] wi fun e w' => e = .returned (.int .i64 s1) ∧ Mi B1 T1 B2 T2 we g A c gr Ar cr t ab l ab1 l s1 m s1 m true true w') := Lib.hid fun wi hm => by
           have hc0 : CAt B1 T1 wi g A c t ab l := hm.code
           refine (GiveUp_any hc0).mono ?_
           rintro e w' ⟨rfl, hc, ho⟩
           rw [hab1] at hc
           exact ⟨by rw [← HBE.out.st, hs1], hm.doneC hc ho⟩
          clear hcut hs1 hab1
          go_upto_region 26 with (fail)
          refine Reg.region_inv (by kernel_rfl) (fun i => ([some (.pointer (some ⟨g, 0, none⟩)), some (.int .i64 s1), some (.pointer (some ⟨gr, 0, none⟩)), some (.pointer (some ⟨gr, 0, none⟩)), some (.pointer (some ⟨gr, 4, none⟩)), some (.int .i64 s1), some (.int .i64 s1), some (.int .i64 s1)] : List (Option Value)).getD i none) (fun D V W => Mi B1 T1 B2 T2 we g A c gr Ar cr t ab l ab1 l s1 m s1 m (D 1) true (W)) (fun V => [(some 106, V 0), (some 107, V 1), (some 108, V 2), (some 109, V 3), (some 110, V 4), (some 111, V 5), (some 12, V 6), (some 13, V 7)]) (by kernel_rfl) (by kernel_rfl) (fun V => rfl) ?_ ?_ ?_
          ·intro V
           exact HMI.out.later (Below.refl _ _).drew
          ·intro i o ho
           have hi : i < 8 := (Array.getElem?_eq_some_iff.1 ho).1
           rcases i with _ | _ | _ | _ | _ | _ | _ | _ | i
           rotate_right
           ·omega
           all_goals obtain rfl := Option.some.inj ho
           all_goals intro D V ρ wi hE hI hDi hT hF hs hd hk
           ·have e7 : ρ (.tmp 7) = .pointer (some ⟨g, 0, none⟩) := hs 7; clear hT hF hk
            exact Reg.Gives.value (v := .pointer (some ⟨g, 0, none⟩)) (w' := wi) (by go_simp) ⟨fun x h => Option.some.inj h, hI⟩
           ·have e106 : ρ (.tmp 106) = .pointer (some ⟨g, 0, none⟩) := (hd 0 106).trans (hk 0 _ rfl); have hf := hE.func; have hD1 : D 1 = false := hDi; clear hT hF
            rw [hD1] at hI
            refine Reg.Gives.call (f := 15) (args := #[.pointer (some ⟨g, 0, none⟩)]) (w' := wi) (by go_simp) ?_
            refine (show Calls Try.prog 15 #[.pointer (some ⟨g, 0, none⟩)] wi _ from (HCC.out wi hI)).mono ?_
            rintro e w'' ⟨rfl, hn⟩
            exact ⟨_, rfl, fun x h => Option.some.inj h, by show Mi B1 T1 B2 T2 we g A c gr Ar cr t ab l ab1 l s1 m s1 m (true) true (w''); exact hn⟩
           ·have e9 : ρ (.tmp 9) = .pointer (some ⟨gr, 0, none⟩) := hs 9; clear hT hF hk
            exact Reg.Gives.value (v := .pointer (some ⟨gr, 0, none⟩)) (w' := wi) (by go_simp) ⟨fun x h => Option.some.inj h, hI⟩
           ·have e108 : ρ (.tmp 108) = .pointer (some ⟨gr, 0, none⟩) := (hd 2 108).trans (hk 2 _ rfl); clear hT hF hk
            exact Reg.Gives.value (v := .pointer (some ⟨gr, 0, none⟩)) (w' := wi) (by go_simp) ⟨fun x h => Option.some.inj h, hI⟩
           ·have e109 : ρ (.tmp 109) = .pointer (some ⟨gr, 0, none⟩) := (hd 3 109).trans (hk 3 _ rfl); clear hT hF hk
            exact Reg.Gives.value (v := .pointer (some ⟨gr, 4, none⟩)) (w' := wi) (by go_simp) ⟨fun x h => Option.some.inj h, hI⟩
           ·have e110 : ρ (.tmp 110) = .pointer (some ⟨gr, 4, none⟩) := (hd 4 110).trans (hk 4 _ rfl); clear hT hF; have x4 := hI.doc.box.cell (j := 4) rfl
            simp only [cond_true] at x4
            exact Reg.Gives.value (v := .int .i64 s1) (w' := wi) (by go_simp) ⟨fun x h => Option.some.inj h, hI⟩
           ·have e107 : ρ (.tmp 107) = .int .i64 s1 := (hd 1 107).trans (hk 1 _ rfl); clear hT hF hk
            exact Reg.Gives.value (v := .int .i64 s1) (w' := wi) (by go_simp) ⟨fun x h => Option.some.inj h, hI⟩
           ·have e111 : ρ (.tmp 111) = .int .i64 s1 := (hd 5 111).trans (hk 5 _ rfl); clear hT hF hk
            exact Reg.Gives.value (v := .int .i64 s1) (w' := wi) (by go_simp) ⟨fun x h => Option.some.inj h, hI⟩
          ·intro V wf hk hI
           have hV6 : V 6 = .int .i64 s1 := hk 6 (by show _ < 8; decide) _ rfl
           have hV7 : V 7 = .int .i64 s1 := hk 7 (by show _ < 8; decide) _ rfl
           simp only [Reg.putsO, List.foldl_cons, List.foldl_nil, Act.put, List.setIfInBounds_toArray, List.set_cons_succ, List.set_cons_zero, hV6, hV7]
           replace hI : Mi B1 T1 B2 T2 we g A c gr Ar cr t ab l ab1 l s1 m s1 m true true (wf) := hI
           clear hk hV6 hV7
           have hM : Mi B1 T1 B2 T2 we g A c gr Ar cr t ab l ab1 l s1 m s1 m true true wf := hI
           have HBF : Hid (Bo B1 T1 B2 T2 wf g A c gr Ar cr t ab1 l s1 m) := Lib.hid ⟨hM.code, hM.doc, HBE.out.like, HFIN.out, hM.ti, HBE.out.its⟩
           have HXF := Lib.hid (HBX.out wf (HOD.out.trans hM.only fun _ _ e => e))
           clear hI hM HCC
           go_wp2_with fail
           go_meet
           exact ⟨s1, ab1, l, m, s1, rfl, rfl, HBF, HSMN, Lib.hid HXF.out.1, Lib.hid HXF.out.2⟩
         ·have f1 : (okk == 1) = false := by simpa using k1
          by_cases k2 : okk = 2
          ·have f2 : (okk == 2) = true := by simp [k2]
           have y3 := HCE.out.cell (j := 3) rfl
           clear k0 k1 k2
           go_wp2_with fail
           clear y3
           go_loopw [15, 117] (fun _ i wr => ∃ j : Nat, j ≤ lq ∧ i = .int .i64 (j : Int) ∧ Hid (DAt B2 T2 wr gr Ar cr t s (ackL s (ol.take j) m)) ∧ Hid (Only (foot gr Ar) we wr)) (fun _ i _ => lq - (intOf i).toNat)
           case atStart => exact ⟨0, Nat.zero_le _, rfl, Lib.hid (by rw [List.take_zero]; unfold ackL aknsL; simp; exact HBE.out.doc), Lib.hid (Only.of_below (Below.refl _ _))⟩
           case round =>
            obtain ⟨j, hj, rfl, HDJ, HOJ⟩ := hrel
            have HXJ := Lib.hid (HBX.out wr (HOJ.out.mono fun k _ e => Or.inr e))
            by_cases hjq : j < lq
            ·have hjl : j < ol.length := by rw [HLQ.out]; exact hjq
             obtain ⟨b, off, rfl, hc⟩ := HOI.out.1 wr HXJ.out.2.1 j hjl
             have ham := ack_more hjl s m
             obtain ⟨y, hy⟩ : ∃ y, ol[j] = y := ⟨_, rfl⟩
             rw [hy] at hc ham
             have HRK := Lib.hid (RAck_any HDJ.out y)
             rw [← ham] at HRK
             clear hjl ham hy
             go_wp2_with fail
             refine HRK.out.mono ?_
             rintro e w6 ⟨rfl, hd6, ho6⟩
             have HD6 := Lib.hid hd6
             have HO6 : Hid (Only (foot gr Ar) we w6) := Lib.hid (HOJ.out.trans ho6 fun _ _ e => e)
             clear hd6 ho6 HRK HDJ HOJ HXJ hc
             go_wp2_with fail
             go_roundw
             case rel => exact ⟨j + 1, by omega, by go_num, HD6, HO6⟩
             case measure => simp [intOf]; omega
            ·obtain rfl : lq = j := by omega
             have htk : ol.take lq = ol := List.take_of_length_le (Nat.le_of_eq HLQ.out)
             have hdj := HDJ.out
             rw [htk] at hdj
             obtain ⟨m1, hm1⟩ : ∃ z, ackL s ol m = z := ⟨_, rfl⟩
             obtain ⟨l1, hl1⟩ : ∃ z, ackL s ol l = z := ⟨_, rfl⟩
             rw [hm1] at hdj
             obtain ⟨wd, hwd⟩ : ∃ W, we = W := ⟨_, rfl⟩
             rw [hwd] at HBE HBX HBW HCE HOJ
             clear hwd
             obtain ⟨we, hwe2⟩ : ∃ W, wr = W := ⟨_, rfl⟩
             rw [hwe2] at hdj HOJ HXJ ⊢
             clear hwe2
             have hbo := HBE.out
             have HOD : Hid (Only (fun k => foot g A k ∨ foot gr Ar k) wd we) := Lib.hid (HOJ.out.mono fun k _ e => Or.inr e)
             have HMI : Hid (Mi B1 T1 B2 T2 we g A c gr Ar cr t ab l ab l1 s m1 s m1 false true we) := Lib.hid ⟨Only.of_below (Below.refl _ _), hbo.code.keep2 HOJ.out (fun k e => by have := hbo.doc.foot_in k e; have := hbo.ti; omega), hdj, hbo.ti, by rw [← hm1]; exact hbo.its.ack _ _, by rw [← hm1]; exact hbo.its.ack _ _⟩
             have hlk1 : Like l1 m1 := by rw [← hl1, ← hm1]; exact hbo.like.ack _ _
             have hst1 : s = stC ab l1 := by rw [← hl1, hbo.st, ackL_st]
             have HFIN : Hid (Like l1 m1 ∧ s = stC ab l1 ∧ (Small m1 ∧ m1.length = nn) ∧ Its (fun k => k < B1) m1) := Lib.hid ⟨hlk1, hst1, ⟨by rw [← hm1]; exact HSM.out.ack _ _, by rw [← hm1, ackL_len]; exact HSMN.out.2⟩, by rw [← hm1]; exact hbo.its.ack _ _⟩
             have hwq : waitsL s l1 = waitsL s m1 := hlk1.waits s
             obtain ⟨qn, hqn⟩ : ∃ z, (waitsL s m1).length = z := ⟨_, rfl⟩
             obtain ⟨ov, hov⟩ : ∃ z, decide (qn = 0) = z := ⟨_, rfl⟩
             have HOV : Hid (((qn : Int) == 0) = ov) := Lib.hid (by rw [← hov]; by_cases h : qn = 0 <;> simp [h])
             have HOZ : Hid (s = 0 → ov = false) := Lib.hid fun e => by
              have h1 := open_waits (ab := ab) (l := l1) (by rw [← hst1]; exact e)
              rw [e] at hwq hqn
              rw [hwq, hqn] at h1
              rw [← hov]
              exact decide_eq_false h1
             have HCC : Hid (∀ wi, Mi B1 T1 B2 T2 we g A c gr Ar cr t ab l ab l1 s m1 s m1 false true wi → Calls Try.prog 17 #[.pointer (some ⟨g, 0, none⟩), .slice oA lq oac] wi fun e w' => e = .returned (.bool ov) ∧ Mi B1 T1 B2 T2 we g A c gr Ar cr t ab l ab l1 s m1 s m1 true true w') := Lib.hid fun wi hm => by
              have hc0 : CAt B1 T1 wi g A c t ab l := hm.code
              have h1 := Ack_any (nc := oac) hc0 (HOI.out.1 wi (HBX.out wi (HOD.out.trans hm.only fun _ _ e => e)).2.1) (by rw [HLQ.out]; omega) (fun k e hne hf => by have := HOI.out.2 hne k e; have := HFT.out k (Or.inl hf); omega)
              rw [HLQ.out, ← hbo.st, hl1, hwq, hqn, hov] at h1
              refine h1.mono ?_
              rintro e w' ⟨rfl, hc, ho⟩
              exact ⟨rfl, hm.doneC hc ho⟩
             have HWT : Hid (∀ wi, (∃ di, Mi B1 T1 B2 T2 we g A c gr Ar cr t ab l ab l1 s m1 s m1 di true wi) → Calls Try.prog 18 #[.pointer (some ⟨gr, 0, none⟩)] wi fun e w' => (∃ A1 c1, e = .returned (.slice A1 qn c1)) ∧ Below wi.heap.size wi w') := Lib.hid fun wi hm => by
              obtain ⟨di, hm⟩ := hm
              have hc0 : DAt B2 T2 wi gr Ar cr t s m1 := hm.doc
              refine (RWaits_any hc0 (by rw [hst1]; exact stC_cases _ _)).mono ?_
              rintro e w' ⟨⟨V, n, vc, rfl, rfl, _⟩, hb⟩
              exact ⟨⟨V, vc, by rw [hqn]⟩, hb⟩
             have HBXO := HBX
             have HBX : Hid (∀ wx, Only (fun k => foot g A k ∨ foot gr Ar k) we wx → Cells wx xb 39 [.int .i64 okk, .int .i64 on, .bool oy, .slice oA lq oac]) := Lib.hid fun wx ho => (HBXO.out wx (HOD.out.trans ho fun _ _ e => e)).1
             clear hdj hbo hlk1 hwq hqn hov htk hm1 hl1 HDJ HOJ HXJ hj hjq hst1
             by_cases hs0 : s = 0
             ·have HS0 : Hid ((s != 0) = false) := Lib.hid (by simp [hs0])
              have hov0 := HOZ.out hs0
              rw [hov0] at HCC
              clear hs0 hov0 HOV HOZ
              go_wp2_with fail
              go_upto_region 33 with (fail)
              refine Reg.region_inv (by kernel_rfl) (fun i => ([some (.pointer (some ⟨g, 0, none⟩)), some (.pointer (some ⟨xb, 3, none⟩)), some (.slice oA lq oac), some (.bool false), some (.pointer (some ⟨gr, 0, none⟩)), some (.pointer (some ⟨gr, 0, none⟩)), some (.pointer (some ⟨gr, 4, none⟩)), some (.int .i64 s), some (.bool false), some (.bool false), some (undef), some (undef), some (undef), some (undef), some (.bool false), some (.bool false)] : List (Option Value)).getD i none) (fun D V W => Mi B1 T1 B2 T2 we g A c gr Ar cr t ab l ab l1 s m1 s m1 (D 3) true W ∧ True) (fun V => [(some 125, V 0), (some 126, V 1), (some 127, V 2), (some 128, V 3), (some 129, V 4), (some 130, V 5), (some 131, V 6), (some 132, V 7), (some 133, V 8), (some 134, V 9), (some 135, V 10), (some 136, V 11), (some 137, V 12), (some 138, V 13), (some 139, V 14), (some 140, V 15)]) (by kernel_rfl) (by kernel_rfl) (fun V => rfl) ?_ ?_ ?_
              ·intro V
               exact ⟨HMI.out.later (Below.refl _ _).drew, trivial⟩
              ·intro i o ho
               have hi : i < 16 := (Array.getElem?_eq_some_iff.1 ho).1
               rcases i with _ | _ | _ | _ | _ | _ | _ | _ | _ | _ | _ | _ | _ | _ | _ | _ | i
               rotate_right
               ·omega
               all_goals obtain rfl := Option.some.inj ho
               all_goals intro D V ρ wi hE hI hDi hT hF hs hd hk
               ·have e7 : ρ (.tmp 7) = .pointer (some ⟨g, 0, none⟩) := hs 7; clear hT hF hk
                exact Reg.Gives.value (v := .pointer (some ⟨g, 0, none⟩)) (w' := wi) (by go_simp) ⟨fun x h => Option.some.inj h, hI⟩
               ·have e11 : ρ (.tmp 11) = .pointer (some ⟨xb, 0, none⟩) := hs 11; clear hT hF hk
                exact Reg.Gives.value (v := .pointer (some ⟨xb, 3, none⟩)) (w' := wi) (by go_simp) ⟨fun x h => Option.some.inj h, hI⟩
               ·have e126 : ρ (.tmp 126) = .pointer (some ⟨xb, 3, none⟩) := (hd 1 126).trans (hk 1 _ rfl); clear hT hF; have hq := HBX.out wi hI.1.only; have q3 := hq.cell (j := 3) rfl
                exact Reg.Gives.value (v := .slice oA lq oac) (w' := wi) (by go_simp) ⟨fun x h => Option.some.inj h, hI⟩
               ·have e125 : ρ (.tmp 125) = .pointer (some ⟨g, 0, none⟩) := (hd 0 125).trans (hk 0 _ rfl); have e127 : ρ (.tmp 127) = .slice oA lq oac := (hd 2 127).trans (hk 2 _ rfl); have hf := hE.func; have hD3 : D 3 = false := hDi; clear hT hF
                rw [hD3] at hI
                refine Reg.Gives.call (f := 17) (args := #[.pointer (some ⟨g, 0, none⟩), .slice oA lq oac]) (w' := wi) (by go_simp) ?_
                refine (show Calls Try.prog 17 #[.pointer (some ⟨g, 0, none⟩), .slice oA lq oac] wi _ from (HCC.out wi hI.1)).mono ?_
                rintro e w'' ⟨rfl, hn⟩
                exact ⟨_, rfl, fun x h => Option.some.inj h, by show Mi B1 T1 B2 T2 we g A c gr Ar cr t ab l ab l1 s m1 s m1 true true w'' ∧ True; exact ⟨hn, trivial⟩⟩
               ·have e9 : ρ (.tmp 9) = .pointer (some ⟨gr, 0, none⟩) := hs 9; clear hT hF hk
                exact Reg.Gives.value (v := .pointer (some ⟨gr, 0, none⟩)) (w' := wi) (by go_simp) ⟨fun x h => Option.some.inj h, hI⟩
               ·have e129 : ρ (.tmp 129) = .pointer (some ⟨gr, 0, none⟩) := (hd 4 129).trans (hk 4 _ rfl); clear hT hF hk
                exact Reg.Gives.value (v := .pointer (some ⟨gr, 0, none⟩)) (w' := wi) (by go_simp) ⟨fun x h => Option.some.inj h, hI⟩
               ·have e130 : ρ (.tmp 130) = .pointer (some ⟨gr, 0, none⟩) := (hd 5 130).trans (hk 5 _ rfl); clear hT hF hk
                exact Reg.Gives.value (v := .pointer (some ⟨gr, 4, none⟩)) (w' := wi) (by go_simp) ⟨fun x h => Option.some.inj h, hI⟩
               ·have e131 : ρ (.tmp 131) = .pointer (some ⟨gr, 4, none⟩) := (hd 6 131).trans (hk 6 _ rfl); clear hT hF; have x4 := hI.1.doc.box.cell (j := 4) rfl
                simp only [cond_true] at x4
                exact Reg.Gives.value (v := .int .i64 s) (w' := wi) (by go_simp) ⟨fun x h => Option.some.inj h, hI⟩
               ·have e132 : ρ (.tmp 132) = .int .i64 s := (hd 7 132).trans (hk 7 _ rfl); have hc := hE.const; clear hT hF; have z1 := HS0.out
                exact Reg.Gives.value (v := .bool false) (w' := wi) (by go_simp) ⟨fun x h => Option.some.inj h, hI⟩
               ·have e133 : ρ (.tmp 133) = .bool false := (hd 8 133).trans (hk 8 _ rfl); clear hT hF hk
                exact Reg.Gives.value (v := .bool false) (w' := wi) (by go_simp) ⟨fun x h => Option.some.inj h, hI⟩
               ·have e9 : ρ (.tmp 9) = .pointer (some ⟨gr, 0, none⟩) := hs 9; have hgd : V 9 = .bool false := hk 9 _ rfl
                exact ⟨fun h => absurd (hgd.symm.trans h) (by intro h; cases h), fun _ => ⟨fun x h => Option.some.inj h, hI⟩⟩
               ·have e135 : ρ (.tmp 135) = undef := (hd 10 135).trans (hk 10 _ rfl); have hf := hE.func; have hgd : V 9 = .bool false := hk 9 _ rfl
                exact ⟨fun h => absurd (hgd.symm.trans h) (by intro h; cases h), fun _ => ⟨fun x h => Option.some.inj h, hI⟩⟩
               ·have e136 : ρ (.tmp 136) = undef := (hd 11 136).trans (hk 11 _ rfl); have hgd : V 9 = .bool false := hk 9 _ rfl
                exact ⟨fun h => absurd (hgd.symm.trans h) (by intro h; cases h), fun _ => ⟨fun x h => Option.some.inj h, hI⟩⟩
               ·have e137 : ρ (.tmp 137) = undef := (hd 12 137).trans (hk 12 _ rfl); have hc := hE.const; have hgd : V 9 = .bool false := hk 9 _ rfl
                exact ⟨fun h => absurd (hgd.symm.trans h) (by intro h; cases h), fun _ => ⟨fun x h => Option.some.inj h, hI⟩⟩
               ·have e134 : ρ (.tmp 134) = .bool false := (hd 9 134).trans (hk 9 _ rfl); have e138 : ρ (.tmp 138) = undef := (hd 13 138).trans (hk 13 _ rfl); have hc := hE.const; clear hT hF hk
                exact Reg.Gives.value (v := .bool false) (w' := wi) (by go_simp) ⟨fun x h => Option.some.inj h, hI⟩
               ·have e128 : ρ (.tmp 128) = .bool false := (hd 3 128).trans (hk 3 _ rfl); have e139 : ρ (.tmp 139) = .bool false := (hd 14 139).trans (hk 14 _ rfl); clear hT hF
                exact Reg.Gives.value (v := .bool false) (w' := wi) (by go_simp) ⟨fun x h => Option.some.inj h, hI⟩
              ·intro V wf hk hI
               have hV15 : V 15 = .bool false := hk 15 (by show _ < 16; decide) _ rfl
               simp only [Reg.putsO, List.foldl_cons, List.foldl_nil, Act.put, List.setIfInBounds_toArray, List.set_cons_succ, List.set_cons_zero, hV15]
               replace hI : Mi B1 T1 B2 T2 we g A c gr Ar cr t ab l ab l1 s m1 s m1 true true wf ∧ True := hI
               clear hk hV15
               have hM : Mi B1 T1 B2 T2 we g A c gr Ar cr t ab l ab l1 s m1 s m1 true true wf := hI.1
               have HBF : Hid (Bo B1 T1 B2 T2 wf g A c gr Ar cr t ab l1 s m1) := Lib.hid ⟨hM.code, hM.doc, HFIN.out.1, HFIN.out.2.1, hM.ti, HFIN.out.2.2.2⟩
               have HXF := Lib.hid (HBXO.out wf (HOD.out.trans hM.only fun _ _ e => e))
               clear hI hM HCC HWT
               go_wp2_with fail
               go_meet
               exact ⟨s, ab, l1, m1, s, rfl, rfl, HBF, Lib.hid HFIN.out.2.2.1, Lib.hid HXF.out.1, Lib.hid HXF.out.2⟩
             ·have HS0 : Hid ((s != 0) = true) := Lib.hid (by simpa using hs0)
              clear hs0 HOZ
              go_wp2_with fail
              go_upto_region 33 with (fail)
              refine Reg.region_inv (by kernel_rfl) (fun i => ([some (.pointer (some ⟨g, 0, none⟩)), some (.pointer (some ⟨xb, 3, none⟩)), some (.slice oA lq oac), some (.bool ov), some (.pointer (some ⟨gr, 0, none⟩)), some (.pointer (some ⟨gr, 0, none⟩)), some (.pointer (some ⟨gr, 4, none⟩)), some (.int .i64 s), some (.bool true), some (.bool true), some (.pointer (some ⟨gr, 0, none⟩)), none, some (.int .i64 (qn : Int)), some (.bool ov), some (.bool ov), some (.bool false)] : List (Option Value)).getD i none) (fun D V W => Mi B1 T1 B2 T2 we g A c gr Ar cr t ab l ab l1 s m1 s m1 (D 3) true (W) ∧ ((D 11) = true → ∃ Ax cx, (V 11) = .slice Ax qn cx)) (fun V => [(some 125, V 0), (some 126, V 1), (some 127, V 2), (some 128, V 3), (some 129, V 4), (some 130, V 5), (some 131, V 6), (some 132, V 7), (some 133, V 8), (some 134, V 9), (some 135, V 10), (some 136, V 11), (some 137, V 12), (some 138, V 13), (some 139, V 14), (some 140, V 15)]) (by kernel_rfl) (by kernel_rfl) (fun V => rfl) ?_ ?_ ?_
              ·intro V
               exact ⟨HMI.out.later (Below.refl _ _).drew, fun e => (by cases e)⟩
              ·intro i o ho
               have hi : i < 16 := (Array.getElem?_eq_some_iff.1 ho).1
               rcases i with _ | _ | _ | _ | _ | _ | _ | _ | _ | _ | _ | _ | _ | _ | _ | _ | i
               rotate_right
               ·omega
               all_goals obtain rfl := Option.some.inj ho
               all_goals intro D V ρ wi hE hI hDi hT hF hs hd hk
               ·have e7 : ρ (.tmp 7) = .pointer (some ⟨g, 0, none⟩) := hs 7; clear hT hF hk
                exact Reg.Gives.value (v := .pointer (some ⟨g, 0, none⟩)) (w' := wi) (by go_simp) ⟨fun x h => Option.some.inj h, hI⟩
               ·have e11 : ρ (.tmp 11) = .pointer (some ⟨xb, 0, none⟩) := hs 11; clear hT hF hk
                exact Reg.Gives.value (v := .pointer (some ⟨xb, 3, none⟩)) (w' := wi) (by go_simp) ⟨fun x h => Option.some.inj h, hI⟩
               ·have e126 : ρ (.tmp 126) = .pointer (some ⟨xb, 3, none⟩) := (hd 1 126).trans (hk 1 _ rfl); clear hT hF; have hq := HBX.out wi hI.1.only; have q3 := hq.cell (j := 3) rfl
                exact Reg.Gives.value (v := .slice oA lq oac) (w' := wi) (by go_simp) ⟨fun x h => Option.some.inj h, hI⟩
               ·have e125 : ρ (.tmp 125) = .pointer (some ⟨g, 0, none⟩) := (hd 0 125).trans (hk 0 _ rfl); have e127 : ρ (.tmp 127) = .slice oA lq oac := (hd 2 127).trans (hk 2 _ rfl); have hf := hE.func; have hD3 : D 3 = false := hDi; clear hT hF
                rw [hD3] at hI
                refine Reg.Gives.call (f := 17) (args := #[.pointer (some ⟨g, 0, none⟩), .slice oA lq oac]) (w' := wi) (by go_simp) ?_
                refine (show Calls Try.prog 17 #[.pointer (some ⟨g, 0, none⟩), .slice oA lq oac] wi _ from (HCC.out wi hI.1)).mono ?_
                rintro e w'' ⟨rfl, hn⟩
                exact ⟨_, rfl, fun x h => Option.some.inj h, by show Mi B1 T1 B2 T2 we g A c gr Ar cr t ab l ab l1 s m1 s m1 (true) true (w'') ∧ ((D 11) = true → ∃ Ax cx, (V 11) = .slice Ax qn cx); exact ⟨hn, hI.2⟩⟩
               ·have e9 : ρ (.tmp 9) = .pointer (some ⟨gr, 0, none⟩) := hs 9; clear hT hF hk
                exact Reg.Gives.value (v := .pointer (some ⟨gr, 0, none⟩)) (w' := wi) (by go_simp) ⟨fun x h => Option.some.inj h, hI⟩
               ·have e129 : ρ (.tmp 129) = .pointer (some ⟨gr, 0, none⟩) := (hd 4 129).trans (hk 4 _ rfl); clear hT hF hk
                exact Reg.Gives.value (v := .pointer (some ⟨gr, 0, none⟩)) (w' := wi) (by go_simp) ⟨fun x h => Option.some.inj h, hI⟩
               ·have e130 : ρ (.tmp 130) = .pointer (some ⟨gr, 0, none⟩) := (hd 5 130).trans (hk 5 _ rfl); clear hT hF hk
                exact Reg.Gives.value (v := .pointer (some ⟨gr, 4, none⟩)) (w' := wi) (by go_simp) ⟨fun x h => Option.some.inj h, hI⟩
               ·have e131 : ρ (.tmp 131) = .pointer (some ⟨gr, 4, none⟩) := (hd 6 131).trans (hk 6 _ rfl); clear hT hF; have x4 := hI.1.doc.box.cell (j := 4) rfl
                simp only [cond_true] at x4
                exact Reg.Gives.value (v := .int .i64 s) (w' := wi) (by go_simp) ⟨fun x h => Option.some.inj h, hI⟩
               ·have e132 : ρ (.tmp 132) = .int .i64 s := (hd 7 132).trans (hk 7 _ rfl); have hc := hE.const; clear hT hF; have z1 := HS0.out
                exact Reg.Gives.value (v := .bool true) (w' := wi) (by go_simp) ⟨fun x h => Option.some.inj h, hI⟩
               ·have e133 : ρ (.tmp 133) = .bool true := (hd 8 133).trans (hk 8 _ rfl); clear hT hF hk
                exact Reg.Gives.value (v := .bool true) (w' := wi) (by go_simp) ⟨fun x h => Option.some.inj h, hI⟩
               ·have e9 : ρ (.tmp 9) = .pointer (some ⟨gr, 0, none⟩) := hs 9; have hgd : V 9 = .bool true := hk 9 _ rfl
                refine ⟨fun _ => ?_, fun h => absurd hgd h⟩
                clear hT hF hk
                exact Reg.Gives.value (v := .pointer (some ⟨gr, 0, none⟩)) (w' := wi) (by go_simp) ⟨fun x h => Option.some.inj h, hI⟩
               ·have e135 : ρ (.tmp 135) = .pointer (some ⟨gr, 0, none⟩) := (hd 10 135).trans (hk 10 _ rfl); have hf := hE.func; have hgd : V 9 = .bool true := hk 9 _ rfl
                refine ⟨fun _ => ?_, fun h => absurd hgd h⟩
                clear hT hF
                refine Reg.Gives.call (f := 18) (args := #[.pointer (some ⟨gr, 0, none⟩)]) (w' := wi) (by go_simp) ?_
                refine (show Calls Try.prog 18 #[.pointer (some ⟨gr, 0, none⟩)] wi _ from (HWT.out wi ⟨_, hI.1⟩)).mono ?_
                rintro e w'' ⟨⟨A1, c1, rfl⟩, hb⟩
                exact ⟨_, rfl, fun x h => (by cases h), by show Mi B1 T1 B2 T2 we g A c gr Ar cr t ab l ab l1 s m1 s m1 (D 3) true (w'') ∧ ((true) = true → ∃ Ax cx, (Value.slice A1 qn c1) = .slice Ax qn cx); exact ⟨hI.1.later hb, fun _ => ⟨A1, c1, rfl⟩⟩⟩
               ·have e136 : ρ (.tmp 136) = V 11 := hd 11 136; have hgd : V 9 = .bool true := hk 9 _ rfl
                refine ⟨fun _ => ?_, fun h => absurd hgd h⟩
                have hD11 : D 11 = true := hT 1 11; clear hT hF; obtain ⟨A1, c1, hv⟩ := hI.2 hD11
                rw [hv] at e136
                exact Reg.Gives.value (v := .int .i64 (qn : Int)) (w' := wi) (by go_simp) ⟨fun x h => Option.some.inj h, hI⟩
               ·have e137 : ρ (.tmp 137) = .int .i64 (qn : Int) := (hd 12 137).trans (hk 12 _ rfl); have hc := hE.const; have hgd : V 9 = .bool true := hk 9 _ rfl
                refine ⟨fun _ => ?_, fun h => absurd hgd h⟩
                clear hT hF; have z1 := HOV.out
                exact Reg.Gives.value (v := .bool ov) (w' := wi) (by go_simp) ⟨fun x h => Option.some.inj h, hI⟩
               ·have e134 : ρ (.tmp 134) = .bool true := (hd 9 134).trans (hk 9 _ rfl); have e138 : ρ (.tmp 138) = .bool ov := (hd 13 138).trans (hk 13 _ rfl); have hc := hE.const; clear hT hF hk
                exact Reg.Gives.value (v := .bool ov) (w' := wi) (by go_simp) ⟨fun x h => Option.some.inj h, hI⟩
               ·have e128 : ρ (.tmp 128) = .bool ov := (hd 3 128).trans (hk 3 _ rfl); have e139 : ρ (.tmp 139) = .bool ov := (hd 14 139).trans (hk 14 _ rfl); clear hT hF
                have z1 : (ov != ov) = false := by simp
                exact Reg.Gives.value (v := .bool false) (w' := wi) (by go_simp) ⟨fun x h => Option.some.inj h, hI⟩
              ·intro V wf hk hI
               have hV15 : V 15 = .bool false := hk 15 (by show _ < 16; decide) _ rfl
               simp only [Reg.putsO, List.foldl_cons, List.foldl_nil, Act.put, List.setIfInBounds_toArray, List.set_cons_succ, List.set_cons_zero, hV15]
               replace hI : Mi B1 T1 B2 T2 we g A c gr Ar cr t ab l ab l1 s m1 s m1 true true (wf) ∧ (true = true → ∃ Ax cx, (V 11) = .slice Ax qn cx) := hI
               clear hk hV15
               have hM : Mi B1 T1 B2 T2 we g A c gr Ar cr t ab l ab l1 s m1 s m1 true true wf := hI.1
               have HBF : Hid (Bo B1 T1 B2 T2 wf g A c gr Ar cr t ab l1 s m1) := Lib.hid ⟨hM.code, hM.doc, HFIN.out.1, HFIN.out.2.1, hM.ti, HFIN.out.2.2.2⟩
               have HXF := Lib.hid (HBXO.out wf (HOD.out.trans hM.only fun _ _ e => e))
               clear hI hM HCC HWT
               go_wp2_with fail
               go_meet
               exact ⟨s, ab, l1, m1, s, rfl, rfl, HBF, Lib.hid HFIN.out.2.2.1, Lib.hid HXF.out.1, Lib.hid HXF.out.2⟩
          ·have f2 : (okk == 2) = false := by simpa using k2
           clear k0 k1 k2
           go_wp2_with fail
           go_meet
           exact ⟨s, ab, l, m, s, rfl, rfl, HBE, HSMN, HCE, HBW⟩
       obtain ⟨er, ab', l', m', s', rfl, rfl, HBO', HSM', HC', HB'⟩ := hcut
       clear HBE HCE HBW HFT HBX HSM HSMN
       apply_assumption
       obtain ⟨we, hwe2⟩ : ∃ W, wc = W := ⟨_, rfl⟩
       rw [hwe2] at HBO' HC' HB' ⊢
       clear hwe2
       obtain ⟨ab, hab⟩ : ∃ z, ab' = z := ⟨_, rfl⟩
       obtain ⟨l, hll⟩ : ∃ z, l' = z := ⟨_, rfl⟩
       obtain ⟨m, hmm⟩ : ∃ z, m' = z := ⟨_, rfl⟩
       obtain ⟨s, hss⟩ : ∃ z, s' = z := ⟨_, rfl⟩
       rw [hab, hll, hmm, hss] at HBO'
       rw [hmm] at HSM'
       clear hab hll hmm hss
       have hbo := HBO'.out
       have hlk := hbo.like
       obtain ⟨q, hq⟩ : ∃ z, waitsL s m = z := ⟨_, rfl⟩
       obtain ⟨its, hits⟩ : ∃ z, itsL ol m = z := ⟨_, rfl⟩
       obtain ⟨ov, hov⟩ : ∃ z, decide (q.length = 0) = z := ⟨_, rfl⟩
       have hq40 : q.length ≤ 40 := by
        rw [← hq]
        unfold waitsL
        rw [List.length_map]
        exact Nat.le_trans (List.length_filter_le _ _) hbo.doc.len
       have HQ40 := Lib.hid hq40
       have hsc : s = 0 ∨ s = 1 ∨ s = 2 := by rw [hbo.st]; exact stC_cases _ _
       have hnl : l.length = nn := by rw [hlk.len]; exact HSM'.out.2
       have HDD : Hid (∀ wi, Below we.heap.size we wi → DAt B2 T2 wi gr Ar cr t s m) := Lib.hid fun wi hb => hbo.doc.later hb
       have HBX : Hid (∀ wi, Below we.heap.size we wi → Cells wi xb 39 [.int .i64 okk, .int .i64 on, .bool oy, .slice oA lq oac]) := Lib.hid fun wi hb => HC'.out.later hb
       have HST : Hid (∀ wi, Below we.heap.size we wi → Calls Try.prog 19 #[.pointer (some ⟨g, 0, none⟩)] wi fun e w' => e = .returned (.int .i64 s) ∧ Below wi.heap.size wi w') := Lib.hid fun wi hb => by
        have h1 := State_any (hbo.code.later hb)
        rw [← hbo.st] at h1
        exact h1
       have HOVR : Hid (∀ wi, Below we.heap.size we wi → Calls Try.prog 20 #[.pointer (some ⟨g, 0, none⟩)] wi fun e w' => e = .returned (.bool ov) ∧ Below wi.heap.size wi w') := Lib.hid fun wi hb => by
        have h1 := Over_any (hbo.code.later hb)
        rw [← hbo.st, hlk.waits, hq, hov] at h1
        exact h1
       have HWC : Hid (∀ wi, Below we.heap.size we wi → Calls Try.prog 22 #[.pointer (some ⟨g, 0, none⟩)] wi fun e w' => (∃ A1 c1, e = .returned (.slice A1 q.length c1) ∧ Nums w' A1 q) ∧ Below wi.heap.size wi w') := Lib.hid fun wi hb => by
        have h1 := Waits_any (hbo.code.later hb)
        rw [← hbo.st, hlk.waits, hq] at h1
        refine h1.mono ?_
        rintro e w' ⟨⟨V, n, vc, rfl, rfl, hn⟩, hb⟩
        exact ⟨⟨V, vc, rfl, hn⟩, hb⟩
       have HWT : Hid (∀ wi, Below we.heap.size we wi → Calls Try.prog 18 #[.pointer (some ⟨gr, 0, none⟩)] wi fun e w' => (∃ A1 c1, e = .returned (.slice A1 q.length c1) ∧ Nums w' A1 q) ∧ Below wi.heap.size wi w') := Lib.hid fun wi hb => by
        have h1 := RWaits_any (hbo.doc.later hb) hsc
        rw [hq] at h1
        refine h1.mono ?_
        rintro e w' ⟨⟨V, n, vc, rfl, rfl, hn⟩, hb⟩
        exact ⟨⟨V, vc, rfl, hn⟩, hb⟩
       have HSN : Hid (∀ (wi : World) A1 A2 c1 c2, Nums wi A1 q → Nums wi A2 q → Calls Try.prog 21 #[.slice A1 q.length c1, .slice A2 q.length c2] wi fun e w' => e = .returned (.bool true) ∧ Below wi.heap.size wi w') := Lib.hid fun wi A1 A2 c1 c2 h1 h2 => by
        have h3 := sameNodes_any A1 A2 q q c1 c2 wi h1 h2 (by omega)
        rw [decide_eq_true rfl] at h3
        exact h3
       have HIC : Hid (∀ wi, Below we.heap.size we wi → Calls Try.prog 24 #[.pointer (some ⟨g, 0, none⟩), .slice oA lq oac] wi fun e w' => (∃ L A1 c1, e = .returned (.slice A1 L.length c1) ∧ IsJoin its L ∧ Items w' A1 L) ∧ Below wi.heap.size wi w') := Lib.hid fun wi hb => by
        have h1 := Items_any (nc := oac) (hbo.code.later hb) (HOI.out.1 wi (HB'.out.1.trans (hb.mono HB'.out.1.size))) (by rw [HLQ.out]; omega)
        rw [HLQ.out, hlk.its, hits] at h1
        exact h1
       have HIR : Hid (∀ wi, Below we.heap.size we wi → Calls Try.prog 25 #[.pointer (some ⟨gr, 0, none⟩), .slice oA lq oac] wi fun e w' => (∃ L A1 c1, e = .returned (.slice A1 L.length c1) ∧ IsJoin its L ∧ Items w' A1 L) ∧ Below wi.heap.size wi w') := Lib.hid fun wi hb => by
        have h1 := RItems_any (nc := oac) (hbo.doc.later hb) HSM'.out.1 (HOI.out.1 wi (HB'.out.1.trans (hb.mono HB'.out.1.size))) (by rw [HLQ.out]; omega)
        rw [HLQ.out, hits] at h1
        exact h1
       have HSML : Hid (∀ L, IsJoin its L → L.length ≤ 16) := Lib.hid fun L hj => join_small hj (by rw [← hits]; exact its_small HSM'.out.1 _)
       have HSI : Hid (∀ (wi : World) L1 L2 A1 A2 c1 c2, IsJoin its L1 → IsJoin its L2 → Items wi A1 L1 → Items wi A2 L2 → Calls Try.prog 23 #[.slice A1 L1.length c1, .slice A2 L2.length c2] wi fun e w' => e = .returned (.bool true) ∧ Below wi.heap.size wi w') := Lib.hid fun wi L1 L2 A1 A2 c1 c2 j1 j2 h1 h2 => by
        have h3 := sameItems_any A1 A2 L1 L2 c1 c2 wi h1 h2 (by have := HSML.out L1 j1; omega)
        rw [decide_eq_true (j1.eq j2)] at h3
        exact h3
       have HND : Hid (∀ wi, Below we.heap.size we wi → Calls Try.prog 26 #[.pointer (some ⟨g, 0, none⟩)] wi fun e w' => (∃ A1 c1, e = .returned (.slice A1 nn c1)) ∧ Below wi.heap.size wi w') := Lib.hid fun wi hb => by
        refine (Nodes_any (hbo.code.later hb)).mono ?_
        rintro e w' ⟨⟨V, n, vc, rfl, hr⟩, hb⟩
        refine ⟨⟨V, vc, ?_⟩, hb⟩
        rw [(OwnG.sl (fit_fv fun x : Sd => x.node) hr).1, hnl]
       have HOV : Hid (((q.length : Int) == 0) = ov) := Lib.hid (by rw [← hov]; by_cases h : q.length = 0 <;> simp [h])
       have HOZ : Hid (s = 0 → ov = false) := Lib.hid fun e => by
        have h1 := open_waits (ab := ab) (l := l) (by rw [← hbo.st]; exact e)
        rw [← hov]
        refine decide_eq_false fun h2 => h1 ?_
        rw [hlk.waits, ← e, hq]
        exact h2
       have hwz : IntKind.i64.wrap (z + 1) = z + 1 := by rw [IntKind.wrap_i64]; omega
       clear hbo hlk hq hits hov hq40 hnl hsc
       by_cases hs0 : s = 0
       ·have HS0 : Hid ((s != 0) = false) := Lib.hid (by simp [hs0])
        have hov0 := HOZ.out hs0
        rw [hov0] at HOVR
        clear hs0 hov0 HOV HOZ
        go_upto_region 35 with (fail)
        refine Reg.region_inv (by kernel_rfl) (fun i => ([some (.int .i64 er), some (.int .i64 er), some (.bool false), some (.bool false), some (.pointer (some ⟨g, 0, none⟩)), some (.int .i64 s), some (.pointer (some ⟨gr, 0, none⟩)), some (.pointer (some ⟨gr, 0, none⟩)), some (.pointer (some ⟨gr, 4, none⟩)), some (.int .i64 s), some (.bool false), some (.bool false), some (.bool false), some (.pointer (some ⟨g, 0, none⟩)), some (.bool false), some (.pointer (some ⟨gr, 0, none⟩)), some (.pointer (some ⟨gr, 0, none⟩)), some (.pointer (some ⟨gr, 4, none⟩)), some (.int .i64 s), some (.bool false), some (.bool false), some (undef), some (undef), some (undef), some (undef), some (.bool false), some (.bool false), some (.bool false), some (.bool false), some (.pointer (some ⟨g, 0, none⟩)), none, some (.pointer (some ⟨gr, 0, none⟩)), none, some (.bool true), some (.bool false), some (.bool false), some (.bool false), some (.pointer (some ⟨g, 0, none⟩)), some (.pointer (some ⟨xb, 3, none⟩)), some (.slice oA lq oac), none, some (.pointer (some ⟨gr, 0, none⟩)), some (.pointer (some ⟨xb, 3, none⟩)), some (.slice oA lq oac), none, some (.bool true), some (.bool false), some (.bool false), some (.bool false), some (.pointer (some ⟨g, 0, none⟩)), none, some (.int .i64 (nn : Int)), some (.slice O nn oc), some (.int .i64 (nn : Int)), some (.bool false), some (.bool false)] : List (Option Value)).getD i none) (fun D V W => Rd we q its nn false (.bool false) (D 30) (V 30) (D 32) (V 32) (D 40) (V 40) (D 44) (V 44) (D 50) (V 50) (W)) (fun V => [(some 141, V 0), (some 142, V 1), (some 143, V 2), (some 144, V 3), (some 145, V 4), (some 146, V 5), (some 147, V 6), (some 148, V 7), (some 149, V 8), (some 150, V 9), (some 151, V 10), (some 152, V 11), (some 153, V 12), (some 154, V 13), (some 155, V 14), (some 156, V 15), (some 157, V 16), (some 158, V 17), (some 159, V 18), (some 160, V 19), (some 161, V 20), (some 162, V 21), (some 163, V 22), (some 164, V 23), (some 165, V 24), (some 166, V 25), (some 167, V 26), (some 168, V 27), (some 169, V 28), (some 170, V 29), (some 171, V 30), (some 172, V 31), (some 173, V 32), (some 174, V 33), (some 175, V 34), (some 176, V 35), (some 177, V 36), (some 178, V 37), (some 179, V 38), (some 180, V 39), (some 181, V 40), (some 182, V 41), (some 183, V 42), (some 184, V 43), (some 185, V 44), (some 186, V 45), (some 187, V 46), (some 188, V 47), (some 189, V 48), (some 190, V 49), (some 191, V 50), (some 192, V 51), (some 193, V 52), (some 194, V 53), (some 195, V 54), (some 196, V 55)]) (by kernel_rfl) (by kernel_rfl) (fun V => rfl) ?_ ?_ ?_
        ·intro V
         exact Rd.start (Below.refl _ _).drew _ _ _ _ _ _
        ·intro i o ho
         have hi : i < 56 := (Array.getElem?_eq_some_iff.1 ho).1
         rcases i with _ | _ | _ | _ | _ | _ | _ | _ | _ | _ | _ | _ | _ | _ | _ | _ | _ | _ | _ | _ | _ | _ | _ | _ | _ | _ | _ | _ | _ | _ | _ | _ | _ | _ | _ | _ | _ | _ | _ | _ | _ | _ | _ | _ | _ | _ | _ | _ | _ | _ | _ | _ | _ | _ | _ | _ | i
         rotate_right
         ·omega
         all_goals obtain rfl := Option.some.inj ho
         all_goals intro D V ρ wi hE hI hDi hT hF hs hd hk
         ·have e12 : ρ (.tmp 12) = .int .i64 er := hs 12; clear hT hF hk
          exact Reg.Gives.value (v := .int .i64 er) (w' := wi) (by go_simp) ⟨fun x h => Option.some.inj h, hI⟩
         ·have e13 : ρ (.tmp 13) = .int .i64 er := hs 13; clear hT hF hk
          exact Reg.Gives.value (v := .int .i64 er) (w' := wi) (by go_simp) ⟨fun x h => Option.some.inj h, hI⟩
         ·have e141 : ρ (.tmp 141) = .int .i64 er := (hd 0 141).trans (hk 0 _ rfl); have e142 : ρ (.tmp 142) = .int .i64 er := (hd 1 142).trans (hk 1 _ rfl); clear hT hF
          have z1 : (er != er) = false := by simp
          exact Reg.Gives.value (v := .bool false) (w' := wi) (by go_simp) ⟨fun x h => Option.some.inj h, hI⟩
         ·have e143 : ρ (.tmp 143) = .bool false := (hd 2 143).trans (hk 2 _ rfl); clear hT hF hk
          exact Reg.Gives.value (v := .bool false) (w' := wi) (by go_simp) ⟨fun x h => Option.some.inj h, hI⟩
         ·have e7 : ρ (.tmp 7) = .pointer (some ⟨g, 0, none⟩) := hs 7; have hgd : V 3 = .bool false := hk 3 _ rfl
          refine ⟨fun _ => ?_, fun h => absurd hgd h⟩
          clear hT hF hk
          exact Reg.Gives.value (v := .pointer (some ⟨g, 0, none⟩)) (w' := wi) (by go_simp) ⟨fun x h => Option.some.inj h, hI⟩
         ·have e145 : ρ (.tmp 145) = .pointer (some ⟨g, 0, none⟩) := (hd 4 145).trans (hk 4 _ rfl); have hf := hE.func; have hgd : V 3 = .bool false := hk 3 _ rfl
          refine ⟨fun _ => ?_, fun h => absurd hgd h⟩
          clear hT hF
          refine Reg.Gives.call (f := 19) (args := #[.pointer (some ⟨g, 0, none⟩)]) (w' := wi) (by go_simp) ?_
          refine (show Calls Try.prog 19 #[.pointer (some ⟨g, 0, none⟩)] wi _ from (HST.out wi hI.low)).mono ?_
          rintro e w'' ⟨rfl, hb⟩
          exact ⟨_, rfl, fun x h => Option.some.inj h, by show Rd we q its nn false (.bool false) (D 30) (V 30) (D 32) (V 32) (D 40) (V 40) (D 44) (V 44) (D 50) (V 50) (w''); exact hI.later hb⟩
         ·have e9 : ρ (.tmp 9) = .pointer (some ⟨gr, 0, none⟩) := hs 9; have hgd : V 3 = .bool false := hk 3 _ rfl
          refine ⟨fun _ => ?_, fun h => absurd hgd h⟩
          clear hT hF hk
          exact Reg.Gives.value (v := .pointer (some ⟨gr, 0, none⟩)) (w' := wi) (by go_simp) ⟨fun x h => Option.some.inj h, hI⟩
         ·have e147 : ρ (.tmp 147) = .pointer (some ⟨gr, 0, none⟩) := (hd 6 147).trans (hk 6 _ rfl); have hgd : V 3 = .bool false := hk 3 _ rfl
          refine ⟨fun _ => ?_, fun h => absurd hgd h⟩
          clear hT hF hk
          exact Reg.Gives.value (v := .pointer (some ⟨gr, 0, none⟩)) (w' := wi) (by go_simp) ⟨fun x h => Option.some.inj h, hI⟩
         ·have e148 : ρ (.tmp 148) = .pointer (some ⟨gr, 0, none⟩) := (hd 7 148).trans (hk 7 _ rfl); have hgd : V 3 = .bool false := hk 3 _ rfl
          refine ⟨fun _ => ?_, fun h => absurd hgd h⟩
          clear hT hF hk
          exact Reg.Gives.value (v := .pointer (some ⟨gr, 4, none⟩)) (w' := wi) (by go_simp) ⟨fun x h => Option.some.inj h, hI⟩
         ·have e149 : ρ (.tmp 149) = .pointer (some ⟨gr, 4, none⟩) := (hd 8 149).trans (hk 8 _ rfl); have hgd : V 3 = .bool false := hk 3 _ rfl
          refine ⟨fun _ => ?_, fun h => absurd hgd h⟩
          clear hT hF; have x4 := (HDD.out wi hI.low).box.cell (j := 4) rfl
          exact Reg.Gives.value (v := .int .i64 s) (w' := wi) (by go_simp) ⟨fun x h => Option.some.inj h, hI⟩
         ·have e146 : ρ (.tmp 146) = .int .i64 s := (hd 5 146).trans (hk 5 _ rfl); have e150 : ρ (.tmp 150) = .int .i64 s := (hd 9 150).trans (hk 9 _ rfl); have hgd : V 3 = .bool false := hk 3 _ rfl
          refine ⟨fun _ => ?_, fun h => absurd hgd h⟩
          clear hT hF
          have z1 : (s != s) = false := by simp
          exact Reg.Gives.value (v := .bool false) (w' := wi) (by go_simp) ⟨fun x h => Option.some.inj h, hI⟩
         ·have e144 : ρ (.tmp 144) = .bool false := (hd 3 144).trans (hk 3 _ rfl); have e151 : ρ (.tmp 151) = .bool false := (hd 10 151).trans (hk 10 _ rfl); have hc := hE.const; clear hT hF hk
          exact Reg.Gives.value (v := .bool false) (w' := wi) (by go_simp) ⟨fun x h => Option.some.inj h, hI⟩
         ·have e152 : ρ (.tmp 152) = .bool false := (hd 11 152).trans (hk 11 _ rfl); clear hT hF hk
          exact Reg.Gives.value (v := .bool false) (w' := wi) (by go_simp) ⟨fun x h => Option.some.inj h, hI⟩
         ·have e7 : ρ (.tmp 7) = .pointer (some ⟨g, 0, none⟩) := hs 7; have hgd : V 12 = .bool false := hk 12 _ rfl
          refine ⟨fun _ => ?_, fun h => absurd hgd h⟩
          clear hT hF hk
          exact Reg.Gives.value (v := .pointer (some ⟨g, 0, none⟩)) (w' := wi) (by go_simp) ⟨fun x h => Option.some.inj h, hI⟩
         ·have e154 : ρ (.tmp 154) = .pointer (some ⟨g, 0, none⟩) := (hd 13 154).trans (hk 13 _ rfl); have hf := hE.func; have hgd : V 12 = .bool false := hk 12 _ rfl
          refine ⟨fun _ => ?_, fun h => absurd hgd h⟩
          clear hT hF
          refine Reg.Gives.call (f := 20) (args := #[.pointer (some ⟨g, 0, none⟩)]) (w' := wi) (by go_simp) ?_
          refine (show Calls Try.prog 20 #[.pointer (some ⟨g, 0, none⟩)] wi _ from (HOVR.out wi hI.low)).mono ?_
          rintro e w'' ⟨rfl, hb⟩
          exact ⟨_, rfl, fun x h => Option.some.inj h, by show Rd we q its nn false (.bool false) (D 30) (V 30) (D 32) (V 32) (D 40) (V 40) (D 44) (V 44) (D 50) (V 50) (w''); exact hI.later hb⟩
         ·have e9 : ρ (.tmp 9) = .pointer (some ⟨gr, 0, none⟩) := hs 9; have hgd : V 12 = .bool false := hk 12 _ rfl
          refine ⟨fun _ => ?_, fun h => absurd hgd h⟩
          clear hT hF hk
          exact Reg.Gives.value (v := .pointer (some ⟨gr, 0, none⟩)) (w' := wi) (by go_simp) ⟨fun x h => Option.some.inj h, hI⟩
         ·have e156 : ρ (.tmp 156) = .pointer (some ⟨gr, 0, none⟩) := (hd 15 156).trans (hk 15 _ rfl); have hgd : V 12 = .bool false := hk 12 _ rfl
          refine ⟨fun _ => ?_, fun h => absurd hgd h⟩
          clear hT hF hk
          exact Reg.Gives.value (v := .pointer (some ⟨gr, 0, none⟩)) (w' := wi) (by go_simp) ⟨fun x h => Option.some.inj h, hI⟩
         ·have e157 : ρ (.tmp 157) = .pointer (some ⟨gr, 0, none⟩) := (hd 16 157).trans (hk 16 _ rfl); have hgd : V 12 = .bool false := hk 12 _ rfl
          refine ⟨fun _ => ?_, fun h => absurd hgd h⟩
          clear hT hF hk
          exact Reg.Gives.value (v := .pointer (some ⟨gr, 4, none⟩)) (w' := wi) (by go_simp) ⟨fun x h => Option.some.inj h, hI⟩
         ·have e158 : ρ (.tmp 158) = .pointer (some ⟨gr, 4, none⟩) := (hd 17 158).trans (hk 17 _ rfl); have hgd : V 12 = .bool false := hk 12 _ rfl
          refine ⟨fun _ => ?_, fun h => absurd hgd h⟩
          clear hT hF; have x4 := (HDD.out wi hI.low).box.cell (j := 4) rfl
          exact Reg.Gives.value (v := .int .i64 s) (w' := wi) (by go_simp) ⟨fun x h => Option.some.inj h, hI⟩
         ·have e159 : ρ (.tmp 159) = .int .i64 s := (hd 18 159).trans (hk 18 _ rfl); have hc := hE.const; have hgd : V 12 = .bool false := hk 12 _ rfl
          refine ⟨fun _ => ?_, fun h => absurd hgd h⟩
          clear hT hF; have z1 := HS0.out
          exact Reg.Gives.value (v := .bool false) (w' := wi) (by go_simp) ⟨fun x h => Option.some.inj h, hI⟩
         ·have e160 : ρ (.tmp 160) = .bool false := (hd 19 160).trans (hk 19 _ rfl); have hgd : V 12 = .bool false := hk 12 _ rfl
          refine ⟨fun _ => ?_, fun h => absurd hgd h⟩
          clear hT hF hk
          exact Reg.Gives.value (v := .bool false) (w' := wi) (by go_simp) ⟨fun x h => Option.some.inj h, hI⟩
         ·have e9 : ρ (.tmp 9) = .pointer (some ⟨gr, 0, none⟩) := hs 9; have hgd : V 20 = .bool false := hk 20 _ rfl
          exact ⟨fun h => absurd (hgd.symm.trans h) (by intro h; cases h), fun _ => ⟨fun x h => Option.some.inj h, hI⟩⟩
         ·have e162 : ρ (.tmp 162) = undef := (hd 21 162).trans (hk 21 _ rfl); have hf := hE.func; have hgd : V 20 = .bool false := hk 20 _ rfl
          exact ⟨fun h => absurd (hgd.symm.trans h) (by intro h; cases h), fun _ => ⟨fun x h => Option.some.inj h, hI⟩⟩
         ·have e163 : ρ (.tmp 163) = undef := (hd 22 163).trans (hk 22 _ rfl); have hgd : V 20 = .bool false := hk 20 _ rfl
          exact ⟨fun h => absurd (hgd.symm.trans h) (by intro h; cases h), fun _ => ⟨fun x h => Option.some.inj h, hI⟩⟩
         ·have e164 : ρ (.tmp 164) = undef := (hd 23 164).trans (hk 23 _ rfl); have hc := hE.const; have hgd : V 20 = .bool false := hk 20 _ rfl
          exact ⟨fun h => absurd (hgd.symm.trans h) (by intro h; cases h), fun _ => ⟨fun x h => Option.some.inj h, hI⟩⟩
         ·have e161 : ρ (.tmp 161) = .bool false := (hd 20 161).trans (hk 20 _ rfl); have e165 : ρ (.tmp 165) = undef := (hd 24 165).trans (hk 24 _ rfl); have hc := hE.const; have hgd : V 12 = .bool false := hk 12 _ rfl
          refine ⟨fun _ => ?_, fun h => absurd hgd h⟩
          clear hT hF hk
          exact Reg.Gives.value (v := .bool false) (w' := wi) (by go_simp) ⟨fun x h => Option.some.inj h, hI⟩
         ·have e155 : ρ (.tmp 155) = .bool false := (hd 14 155).trans (hk 14 _ rfl); have e166 : ρ (.tmp 166) = .bool false := (hd 25 166).trans (hk 25 _ rfl); have hgd : V 12 = .bool false := hk 12 _ rfl
          refine ⟨fun _ => ?_, fun h => absurd hgd h⟩
          clear hT hF hk
          exact Reg.Gives.value (v := .bool false) (w' := wi) (by go_simp) ⟨fun x h => Option.some.inj h, hI⟩
         ·have e153 : ρ (.tmp 153) = .bool false := (hd 12 153).trans (hk 12 _ rfl); have e167 : ρ (.tmp 167) = .bool false := (hd 26 167).trans (hk 26 _ rfl); have hc := hE.const; clear hT hF hk
          exact Reg.Gives.value (v := .bool false) (w' := wi) (by go_simp) ⟨fun x h => Option.some.inj h, hI⟩
         ·have e168 : ρ (.tmp 168) = .bool false := (hd 27 168).trans (hk 27 _ rfl); clear hT hF hk
          exact Reg.Gives.value (v := .bool false) (w' := wi) (by go_simp) ⟨fun x h => Option.some.inj h, hI⟩
         ·have e7 : ρ (.tmp 7) = .pointer (some ⟨g, 0, none⟩) := hs 7; have hgd : V 28 = .bool false := hk 28 _ rfl
          refine ⟨fun _ => ?_, fun h => absurd hgd h⟩
          clear hT hF hk
          exact Reg.Gives.value (v := .pointer (some ⟨g, 0, none⟩)) (w' := wi) (by go_simp) ⟨fun x h => Option.some.inj h, hI⟩
         ·have e170 : ρ (.tmp 170) = .pointer (some ⟨g, 0, none⟩) := (hd 29 170).trans (hk 29 _ rfl); have hf := hE.func; have hgd : V 28 = .bool false := hk 28 _ rfl
          refine ⟨fun _ => ?_, fun h => absurd hgd h⟩
          clear hT hF
          refine Reg.Gives.call (f := 22) (args := #[.pointer (some ⟨g, 0, none⟩)]) (w' := wi) (by go_simp) ?_
          refine (show Calls Try.prog 22 #[.pointer (some ⟨g, 0, none⟩)] wi _ from (HWC.out wi hI.low)).mono ?_
          rintro e w'' ⟨⟨A1, c1, rfl, hn⟩, hb⟩
          exact ⟨_, rfl, fun x h => (by cases h), by show Rd we q its nn false (.bool false) (true) (Value.slice A1 q.length c1) (D 32) (V 32) (D 40) (V 40) (D 44) (V 44) (D 50) (V 50) (w''); exact { hI.later hb with b := fun _ => ⟨A1, c1, rfl, hn⟩ }⟩
         ·have e9 : ρ (.tmp 9) = .pointer (some ⟨gr, 0, none⟩) := hs 9; have hgd : V 28 = .bool false := hk 28 _ rfl
          refine ⟨fun _ => ?_, fun h => absurd hgd h⟩
          clear hT hF hk
          exact Reg.Gives.value (v := .pointer (some ⟨gr, 0, none⟩)) (w' := wi) (by go_simp) ⟨fun x h => Option.some.inj h, hI⟩
         ·have e172 : ρ (.tmp 172) = .pointer (some ⟨gr, 0, none⟩) := (hd 31 172).trans (hk 31 _ rfl); have hf := hE.func; have hgd : V 28 = .bool false := hk 28 _ rfl
          refine ⟨fun _ => ?_, fun h => absurd hgd h⟩
          clear hT hF
          refine Reg.Gives.call (f := 18) (args := #[.pointer (some ⟨gr, 0, none⟩)]) (w' := wi) (by go_simp) ?_
          refine (show Calls Try.prog 18 #[.pointer (some ⟨gr, 0, none⟩)] wi _ from (HWT.out wi hI.low)).mono ?_
          rintro e w'' ⟨⟨A1, c1, rfl, hn⟩, hb⟩
          exact ⟨_, rfl, fun x h => (by cases h), by show Rd we q its nn false (.bool false) (D 30) (V 30) (true) (Value.slice A1 q.length c1) (D 40) (V 40) (D 44) (V 44) (D 50) (V 50) (w''); exact { hI.later hb with c := fun _ => ⟨A1, c1, rfl, hn⟩ }⟩
         ·have e171 : ρ (.tmp 171) = V 30 := hd 30 171; have e173 : ρ (.tmp 173) = V 32 := hd 32 173; have hf := hE.func; have hgd : V 28 = .bool false := hk 28 _ rfl
          refine ⟨fun _ => ?_, fun h => absurd hgd h⟩
          have hD30 : D 30 = true := hT 1 30; have hD32 : D 32 = true := hT 1 32; clear hT hF; obtain ⟨A1, c1, hv, hn1⟩ := hI.b hD30; obtain ⟨A2, c2, hv2, hn2⟩ := hI.c hD32
          rw [hv] at e171
          rw [hv2] at e173
          refine Reg.Gives.call (f := 21) (args := #[.slice A1 q.length c1, .slice A2 q.length c2]) (w' := wi) (by go_simp) ?_
          refine (show Calls Try.prog 21 #[.slice A1 q.length c1, .slice A2 q.length c2] wi _ from (HSN.out wi A1 A2 c1 c2 hn1 hn2)).mono ?_
          rintro e w'' ⟨rfl, hb⟩
          exact ⟨_, rfl, fun x h => Option.some.inj h, by show Rd we q its nn false (.bool false) (D 30) (V 30) (D 32) (V 32) (D 40) (V 40) (D 44) (V 44) (D 50) (V 50) (w''); exact hI.later hb⟩
         ·have e174 : ρ (.tmp 174) = .bool true := (hd 33 174).trans (hk 33 _ rfl); have hgd : V 28 = .bool false := hk 28 _ rfl
          refine ⟨fun _ => ?_, fun h => absurd hgd h⟩
          clear hT hF hk
          exact Reg.Gives.value (v := .bool false) (w' := wi) (by go_simp) ⟨fun x h => Option.some.inj h, hI⟩
         ·have e169 : ρ (.tmp 169) = .bool false := (hd 28 169).trans (hk 28 _ rfl); have e175 : ρ (.tmp 175) = .bool false := (hd 34 175).trans (hk 34 _ rfl); have hc := hE.const; clear hT hF hk
          exact Reg.Gives.value (v := .bool false) (w' := wi) (by go_simp) ⟨fun x h => Option.some.inj h, hI⟩
         ·have e176 : ρ (.tmp 176) = .bool false := (hd 35 176).trans (hk 35 _ rfl); clear hT hF hk
          exact Reg.Gives.value (v := .bool false) (w' := wi) (by go_simp) ⟨fun x h => Option.some.inj h, hI⟩
         ·have e7 : ρ (.tmp 7) = .pointer (some ⟨g, 0, none⟩) := hs 7; have hgd : V 36 = .bool false := hk 36 _ rfl
          refine ⟨fun _ => ?_, fun h => absurd hgd h⟩
          clear hT hF hk
          exact Reg.Gives.value (v := .pointer (some ⟨g, 0, none⟩)) (w' := wi) (by go_simp) ⟨fun x h => Option.some.inj h, hI⟩
         ·have e11 : ρ (.tmp 11) = .pointer (some ⟨xb, 0, none⟩) := hs 11; have hgd : V 36 = .bool false := hk 36 _ rfl
          refine ⟨fun _ => ?_, fun h => absurd hgd h⟩
          clear hT hF hk
          exact Reg.Gives.value (v := .pointer (some ⟨xb, 3, none⟩)) (w' := wi) (by go_simp) ⟨fun x h => Option.some.inj h, hI⟩
         ·have e179 : ρ (.tmp 179) = .pointer (some ⟨xb, 3, none⟩) := (hd 38 179).trans (hk 38 _ rfl); have hgd : V 36 = .bool false := hk 36 _ rfl
          refine ⟨fun _ => ?_, fun h => absurd hgd h⟩
          clear hT hF; have q3 := (HBX.out wi hI.low).cell (j := 3) rfl
          exact Reg.Gives.value (v := .slice oA lq oac) (w' := wi) (by go_simp) ⟨fun x h => Option.some.inj h, hI⟩
         ·have e178 : ρ (.tmp 178) = .pointer (some ⟨g, 0, none⟩) := (hd 37 178).trans (hk 37 _ rfl); have e180 : ρ (.tmp 180) = .slice oA lq oac := (hd 39 180).trans (hk 39 _ rfl); have hf := hE.func; have hgd : V 36 = .bool false := hk 36 _ rfl
          refine ⟨fun _ => ?_, fun h => absurd hgd h⟩
          clear hT hF
          refine Reg.Gives.call (f := 24) (args := #[.pointer (some ⟨g, 0, none⟩), .slice oA lq oac]) (w' := wi) (by go_simp) ?_
          refine (show Calls Try.prog 24 #[.pointer (some ⟨g, 0, none⟩), .slice oA lq oac] wi _ from (HIC.out wi hI.low)).mono ?_
          rintro e w'' ⟨⟨L, A1, c1, rfl, hj, hi⟩, hb⟩
          exact ⟨_, rfl, fun x h => (by cases h), by show Rd we q its nn false (.bool false) (D 30) (V 30) (D 32) (V 32) (true) (Value.slice A1 L.length c1) (D 44) (V 44) (D 50) (V 50) (w''); exact { hI.later hb with d := fun _ => ⟨L, A1, c1, rfl, hj, hi⟩ }⟩
         ·have e9 : ρ (.tmp 9) = .pointer (some ⟨gr, 0, none⟩) := hs 9; have hgd : V 36 = .bool false := hk 36 _ rfl
          refine ⟨fun _ => ?_, fun h => absurd hgd h⟩
          clear hT hF hk
          exact Reg.Gives.value (v := .pointer (some ⟨gr, 0, none⟩)) (w' := wi) (by go_simp) ⟨fun x h => Option.some.inj h, hI⟩
         ·have e11 : ρ (.tmp 11) = .pointer (some ⟨xb, 0, none⟩) := hs 11; have hgd : V 36 = .bool false := hk 36 _ rfl
          refine ⟨fun _ => ?_, fun h => absurd hgd h⟩
          clear hT hF hk
          exact Reg.Gives.value (v := .pointer (some ⟨xb, 3, none⟩)) (w' := wi) (by go_simp) ⟨fun x h => Option.some.inj h, hI⟩
         ·have e183 : ρ (.tmp 183) = .pointer (some ⟨xb, 3, none⟩) := (hd 42 183).trans (hk 42 _ rfl); have hgd : V 36 = .bool false := hk 36 _ rfl
          refine ⟨fun _ => ?_, fun h => absurd hgd h⟩
          clear hT hF; have q3 := (HBX.out wi hI.low).cell (j := 3) rfl
          exact Reg.Gives.value (v := .slice oA lq oac) (w' := wi) (by go_simp) ⟨fun x h => Option.some.inj h, hI⟩
         ·have e182 : ρ (.tmp 182) = .pointer (some ⟨gr, 0, none⟩) := (hd 41 182).trans (hk 41 _ rfl); have e184 : ρ (.tmp 184) = .slice oA lq oac := (hd 43 184).trans (hk 43 _ rfl); have hf := hE.func; have hgd : V 36 = .bool false := hk 36 _ rfl
          refine ⟨fun _ => ?_, fun h => absurd hgd h⟩
          clear hT hF
          refine Reg.Gives.call (f := 25) (args := #[.pointer (some ⟨gr, 0, none⟩), .slice oA lq oac]) (w' := wi) (by go_simp) ?_
          refine (show Calls Try.prog 25 #[.pointer (some ⟨gr, 0, none⟩), .slice oA lq oac] wi _ from (HIR.out wi hI.low)).mono ?_
          rintro e w'' ⟨⟨L, A1, c1, rfl, hj, hi⟩, hb⟩
          exact ⟨_, rfl, fun x h => (by cases h), by show Rd we q its nn false (.bool false) (D 30) (V 30) (D 32) (V 32) (D 40) (V 40) (true) (Value.slice A1 L.length c1) (D 50) (V 50) (w''); exact { hI.later hb with e := fun _ => ⟨L, A1, c1, rfl, hj, hi⟩ }⟩
         ·have e181 : ρ (.tmp 181) = V 40 := hd 40 181; have e185 : ρ (.tmp 185) = V 44 := hd 44 185; have hf := hE.func; have hgd : V 36 = .bool false := hk 36 _ rfl
          refine ⟨fun _ => ?_, fun h => absurd hgd h⟩
          have hD40 : D 40 = true := hT 1 40; have hD44 : D 44 = true := hT 1 44; clear hT hF; obtain ⟨L1, A1, c1, hv, hj1, hn1⟩ := hI.d hD40; obtain ⟨L2, A2, c2, hv2, hj2, hn2⟩ := hI.e hD44
          rw [hv] at e181
          rw [hv2] at e185
          refine Reg.Gives.call (f := 23) (args := #[.slice A1 L1.length c1, .slice A2 L2.length c2]) (w' := wi) (by go_simp) ?_
          refine (show Calls Try.prog 23 #[.slice A1 L1.length c1, .slice A2 L2.length c2] wi _ from (HSI.out wi L1 L2 A1 A2 c1 c2 hj1 hj2 hn1 hn2)).mono ?_
          rintro e w'' ⟨rfl, hb⟩
          exact ⟨_, rfl, fun x h => Option.some.inj h, by show Rd we q its nn false (.bool false) (D 30) (V 30) (D 32) (V 32) (D 40) (V 40) (D 44) (V 44) (D 50) (V 50) (w''); exact hI.later hb⟩
         ·have e186 : ρ (.tmp 186) = .bool true := (hd 45 186).trans (hk 45 _ rfl); have hgd : V 36 = .bool false := hk 36 _ rfl
          refine ⟨fun _ => ?_, fun h => absurd hgd h⟩
          clear hT hF hk
          exact Reg.Gives.value (v := .bool false) (w' := wi) (by go_simp) ⟨fun x h => Option.some.inj h, hI⟩
         ·have e177 : ρ (.tmp 177) = .bool false := (hd 36 177).trans (hk 36 _ rfl); have e187 : ρ (.tmp 187) = .bool false := (hd 46 187).trans (hk 46 _ rfl); have hc := hE.const; clear hT hF hk
          exact Reg.Gives.value (v := .bool false) (w' := wi) (by go_simp) ⟨fun x h => Option.some.inj h, hI⟩
         ·have e188 : ρ (.tmp 188) = .bool false := (hd 47 188).trans (hk 47 _ rfl); clear hT hF hk
          exact Reg.Gives.value (v := .bool false) (w' := wi) (by go_simp) ⟨fun x h => Option.some.inj h, hI⟩
         ·have e7 : ρ (.tmp 7) = .pointer (some ⟨g, 0, none⟩) := hs 7; have hgd : V 48 = .bool false := hk 48 _ rfl
          refine ⟨fun _ => ?_, fun h => absurd hgd h⟩
          clear hT hF hk
          exact Reg.Gives.value (v := .pointer (some ⟨g, 0, none⟩)) (w' := wi) (by go_simp) ⟨fun x h => Option.some.inj h, hI⟩
         ·have e190 : ρ (.tmp 190) = .pointer (some ⟨g, 0, none⟩) := (hd 49 190).trans (hk 49 _ rfl); have hf := hE.func; have hgd : V 48 = .bool false := hk 48 _ rfl
          refine ⟨fun _ => ?_, fun h => absurd hgd h⟩
          clear hT hF
          refine Reg.Gives.call (f := 26) (args := #[.pointer (some ⟨g, 0, none⟩)]) (w' := wi) (by go_simp) ?_
          refine (show Calls Try.prog 26 #[.pointer (some ⟨g, 0, none⟩)] wi _ from (HND.out wi hI.low)).mono ?_
          rintro e w'' ⟨⟨A1, c1, rfl⟩, hb⟩
          exact ⟨_, rfl, fun x h => (by cases h), by show Rd we q its nn false (.bool false) (D 30) (V 30) (D 32) (V 32) (D 40) (V 40) (D 44) (V 44) (true) (Value.slice A1 nn c1) (w''); exact { hI.later hb with f := fun _ => ⟨A1, c1, rfl⟩ }⟩
         ·have e191 : ρ (.tmp 191) = V 50 := hd 50 191; have hgd : V 48 = .bool false := hk 48 _ rfl
          refine ⟨fun _ => ?_, fun h => absurd hgd h⟩
          have hD50 : D 50 = true := hT 1 50; clear hT hF; obtain ⟨A1, c1, hv⟩ := hI.f hD50
          rw [hv] at e191
          exact Reg.Gives.value (v := .int .i64 (nn : Int)) (w' := wi) (by go_simp) ⟨fun x h => Option.some.inj h, hI⟩
         ·have e1 : ρ (.tmp 1) = .slice O nn oc := hs 1; have hgd : V 48 = .bool false := hk 48 _ rfl
          refine ⟨fun _ => ?_, fun h => absurd hgd h⟩
          clear hT hF hk
          exact Reg.Gives.value (v := .slice O nn oc) (w' := wi) (by go_simp) ⟨fun x h => Option.some.inj h, hI⟩
         ·have e193 : ρ (.tmp 193) = .slice O nn oc := (hd 52 193).trans (hk 52 _ rfl); have hgd : V 48 = .bool false := hk 48 _ rfl
          refine ⟨fun _ => ?_, fun h => absurd hgd h⟩
          clear hT hF hk
          exact Reg.Gives.value (v := .int .i64 (nn : Int)) (w' := wi) (by go_simp) ⟨fun x h => Option.some.inj h, hI⟩
         ·have e192 : ρ (.tmp 192) = .int .i64 (nn : Int) := (hd 51 192).trans (hk 51 _ rfl); have e194 : ρ (.tmp 194) = .int .i64 (nn : Int) := (hd 53 194).trans (hk 53 _ rfl); have hgd : V 48 = .bool false := hk 48 _ rfl
          refine ⟨fun _ => ?_, fun h => absurd hgd h⟩
          clear hT hF
          have z1 : ((nn : Int) != (nn : Int)) = false := by simp
          exact Reg.Gives.value (v := .bool false) (w' := wi) (by go_simp) ⟨fun x h => Option.some.inj h, hI⟩
         ·have e189 : ρ (.tmp 189) = .bool false := (hd 48 189).trans (hk 48 _ rfl); have e195 : ρ (.tmp 195) = .bool false := (hd 54 195).trans (hk 54 _ rfl); have hc := hE.const; clear hT hF hk
          exact Reg.Gives.value (v := .bool false) (w' := wi) (by go_simp) ⟨fun x h => Option.some.inj h, hI⟩
        ·intro V wf hk hI
         have hV55 : V 55 = .bool false := hk 55 (by show _ < 56; decide) _ rfl
         simp only [Reg.putsO, List.foldl_cons, List.foldl_nil, Act.put, List.setIfInBounds_toArray, List.set_cons_succ, List.set_cons_zero, hV55]
         replace hI : Rd we q its nn false (.bool false) true (V 30) true (V 32) true (V 40) true (V 44) true (V 50) (wf) := hI
         clear hk hV55
         have HLOW : Hid (Below we.heap.size we wf) := Lib.hid hI.low
         have HBF := Lib.hid (HBO'.out.later HLOW.out)
         have HWF : Hid (Below w.heap.size w wf ∧ T2 ≤ wf.heap.size) := Lib.hid ⟨HB'.out.1.trans (HLOW.out.mono HB'.out.1.size), by have := HXB.out; have := HB'.out; have := HLOW.out.size; omega⟩
         clear hI
         go_wp2_with fail
         go_roundw
         case rel => exact ⟨z + 1, ab, l, m, s, by first | rw [hwz] | go_num, by omega, by omega, HBF, HSM', HWF⟩
         case measure => simp [intOf]; omega
       ·have HS0 : Hid ((s != 0) = true) := Lib.hid (by simpa using hs0)
        clear hs0 HOZ
        go_upto_region 35 with (fail)
        refine Reg.region_inv (by kernel_rfl) (fun i => ([some (.int .i64 er), some (.int .i64 er), some (.bool false), some (.bool false), some (.pointer (some ⟨g, 0, none⟩)), some (.int .i64 s), some (.pointer (some ⟨gr, 0, none⟩)), some (.pointer (some ⟨gr, 0, none⟩)), some (.pointer (some ⟨gr, 4, none⟩)), some (.int .i64 s), some (.bool false), some (.bool false), some (.bool false), some (.pointer (some ⟨g, 0, none⟩)), some (.bool ov), some (.pointer (some ⟨gr, 0, none⟩)), some (.pointer (some ⟨gr, 0, none⟩)), some (.pointer (some ⟨gr, 4, none⟩)), some (.int .i64 s), some (.bool true), some (.bool true), some (.pointer (some ⟨gr, 0, none⟩)), none, some (.int .i64 (q.length : Int)), some (.bool ov), some (.bool ov), some (.bool false), some (.bool false), some (.bool false), some (.pointer (some ⟨g, 0, none⟩)), none, some (.pointer (some ⟨gr, 0, none⟩)), none, some (.bool true), some (.bool false), some (.bool false), some (.bool false), some (.pointer (some ⟨g, 0, none⟩)), some (.pointer (some ⟨xb, 3, none⟩)), some (.slice oA lq oac), none, some (.pointer (some ⟨gr, 0, none⟩)), some (.pointer (some ⟨xb, 3, none⟩)), some (.slice oA lq oac), none, some (.bool true), some (.bool false), some (.bool false), some (.bool false), some (.pointer (some ⟨g, 0, none⟩)), none, some (.int .i64 (nn : Int)), some (.slice O nn oc), some (.int .i64 (nn : Int)), some (.bool false), some (.bool false)] : List (Option Value)).getD i none) (fun D V W => Rd we q its nn (D 22) (V 22) (D 30) (V 30) (D 32) (V 32) (D 40) (V 40) (D 44) (V 44) (D 50) (V 50) (W)) (fun V => [(some 141, V 0), (some 142, V 1), (some 143, V 2), (some 144, V 3), (some 145, V 4), (some 146, V 5), (some 147, V 6), (some 148, V 7), (some 149, V 8), (some 150, V 9), (some 151, V 10), (some 152, V 11), (some 153, V 12), (some 154, V 13), (some 155, V 14), (some 156, V 15), (some 157, V 16), (some 158, V 17), (some 159, V 18), (some 160, V 19), (some 161, V 20), (some 162, V 21), (some 163, V 22), (some 164, V 23), (some 165, V 24), (some 166, V 25), (some 167, V 26), (some 168, V 27), (some 169, V 28), (some 170, V 29), (some 171, V 30), (some 172, V 31), (some 173, V 32), (some 174, V 33), (some 175, V 34), (some 176, V 35), (some 177, V 36), (some 178, V 37), (some 179, V 38), (some 180, V 39), (some 181, V 40), (some 182, V 41), (some 183, V 42), (some 184, V 43), (some 185, V 44), (some 186, V 45), (some 187, V 46), (some 188, V 47), (some 189, V 48), (some 190, V 49), (some 191, V 50), (some 192, V 51), (some 193, V 52), (some 194, V 53), (some 195, V 54), (some 196, V 55)]) (by kernel_rfl) (by kernel_rfl) (fun V => rfl) ?_ ?_ ?_
        ·intro V
         exact Rd.start (Below.refl _ _).drew _ _ _ _ _ _
        ·intro i o ho
         have hi : i < 56 := (Array.getElem?_eq_some_iff.1 ho).1
         rcases i with _ | _ | _ | _ | _ | _ | _ | _ | _ | _ | _ | _ | _ | _ | _ | _ | _ | _ | _ | _ | _ | _ | _ | _ | _ | _ | _ | _ | _ | _ | _ | _ | _ | _ | _ | _ | _ | _ | _ | _ | _ | _ | _ | _ | _ | _ | _ | _ | _ | _ | _ | _ | _ | _ | _ | _ | i
         rotate_right
         ·omega
         all_goals obtain rfl := Option.some.inj ho
         all_goals intro D V ρ wi hE hI hDi hT hF hs hd hk
         ·have e12 : ρ (.tmp 12) = .int .i64 er := hs 12; clear hT hF hk
          exact Reg.Gives.value (v := .int .i64 er) (w' := wi) (by go_simp) ⟨fun x h => Option.some.inj h, hI⟩
         ·have e13 : ρ (.tmp 13) = .int .i64 er := hs 13; clear hT hF hk
          exact Reg.Gives.value (v := .int .i64 er) (w' := wi) (by go_simp) ⟨fun x h => Option.some.inj h, hI⟩
         ·have e141 : ρ (.tmp 141) = .int .i64 er := (hd 0 141).trans (hk 0 _ rfl); have e142 : ρ (.tmp 142) = .int .i64 er := (hd 1 142).trans (hk 1 _ rfl); clear hT hF
          have z1 : (er != er) = false := by simp
          exact Reg.Gives.value (v := .bool false) (w' := wi) (by go_simp) ⟨fun x h => Option.some.inj h, hI⟩
         ·have e143 : ρ (.tmp 143) = .bool false := (hd 2 143).trans (hk 2 _ rfl); clear hT hF hk
          exact Reg.Gives.value (v := .bool false) (w' := wi) (by go_simp) ⟨fun x h => Option.some.inj h, hI⟩
         ·have e7 : ρ (.tmp 7) = .pointer (some ⟨g, 0, none⟩) := hs 7; have hgd : V 3 = .bool false := hk 3 _ rfl
          refine ⟨fun _ => ?_, fun h => absurd hgd h⟩
          clear hT hF hk
          exact Reg.Gives.value (v := .pointer (some ⟨g, 0, none⟩)) (w' := wi) (by go_simp) ⟨fun x h => Option.some.inj h, hI⟩
         ·have e145 : ρ (.tmp 145) = .pointer (some ⟨g, 0, none⟩) := (hd 4 145).trans (hk 4 _ rfl); have hf := hE.func; have hgd : V 3 = .bool false := hk 3 _ rfl
          refine ⟨fun _ => ?_, fun h => absurd hgd h⟩
          clear hT hF
          refine Reg.Gives.call (f := 19) (args := #[.pointer (some ⟨g, 0, none⟩)]) (w' := wi) (by go_simp) ?_
          refine (show Calls Try.prog 19 #[.pointer (some ⟨g, 0, none⟩)] wi _ from (HST.out wi hI.low)).mono ?_
          rintro e w'' ⟨rfl, hb⟩
          exact ⟨_, rfl, fun x h => Option.some.inj h, by show Rd we q its nn (D 22) (V 22) (D 30) (V 30) (D 32) (V 32) (D 40) (V 40) (D 44) (V 44) (D 50) (V 50) (w''); exact hI.later hb⟩
         ·have e9 : ρ (.tmp 9) = .pointer (some ⟨gr, 0, none⟩) := hs 9; have hgd : V 3 = .bool false := hk 3 _ rfl
          refine ⟨fun _ => ?_, fun h => absurd hgd h⟩
          clear hT hF hk
          exact Reg.Gives.value (v := .pointer (some ⟨gr, 0, none⟩)) (w' := wi) (by go_simp) ⟨fun x h => Option.some.inj h, hI⟩
         ·have e147 : ρ (.tmp 147) = .pointer (some ⟨gr, 0, none⟩) := (hd 6 147).trans (hk 6 _ rfl); have hgd : V 3 = .bool false := hk 3 _ rfl
          refine ⟨fun _ => ?_, fun h => absurd hgd h⟩
          clear hT hF hk
          exact Reg.Gives.value (v := .pointer (some ⟨gr, 0, none⟩)) (w' := wi) (by go_simp) ⟨fun x h => Option.some.inj h, hI⟩
         ·have e148 : ρ (.tmp 148) = .pointer (some ⟨gr, 0, none⟩) := (hd 7 148).trans (hk 7 _ rfl); have hgd : V 3 = .bool false := hk 3 _ rfl
          refine ⟨fun _ => ?_, fun h => absurd hgd h⟩
          clear hT hF hk
          exact Reg.Gives.value (v := .pointer (some ⟨gr, 4, none⟩)) (w' := wi) (by go_simp) ⟨fun x h => Option.some.inj h, hI⟩
         ·have e149 : ρ (.tmp 149) = .pointer (some ⟨gr, 4, none⟩) := (hd 8 149).trans (hk 8 _ rfl); have hgd : V 3 = .bool false := hk 3 _ rfl
          refine ⟨fun _ => ?_, fun h => absurd hgd h⟩
          clear hT hF; have x4 := (HDD.out wi hI.low).box.cell (j := 4) rfl
          exact Reg.Gives.value (v := .int .i64 s) (w' := wi) (by go_simp) ⟨fun x h => Option.some.inj h, hI⟩
         ·have e146 : ρ (.tmp 146) = .int .i64 s := (hd 5 146).trans (hk 5 _ rfl); have e150 : ρ (.tmp 150) = .int .i64 s := (hd 9 150).trans (hk 9 _ rfl); have hgd : V 3 = .bool false := hk 3 _ rfl
          refine ⟨fun _ => ?_, fun h => absurd hgd h⟩
          clear hT hF
          have z1 : (s != s) = false := by simp
          exact Reg.Gives.value (v := .bool false) (w' := wi) (by go_simp) ⟨fun x h => Option.some.inj h, hI⟩
         ·have e144 : ρ (.tmp 144) = .bool false := (hd 3 144).trans (hk 3 _ rfl); have e151 : ρ (.tmp 151) = .bool false := (hd 10 151).trans (hk 10 _ rfl); have hc := hE.const; clear hT hF hk
          exact Reg.Gives.value (v := .bool false) (w' := wi) (by go_simp) ⟨fun x h => Option.some.inj h, hI⟩
         ·have e152 : ρ (.tmp 152) = .bool false := (hd 11 152).trans (hk 11 _ rfl); clear hT hF hk
          exact Reg.Gives.value (v := .bool false) (w' := wi) (by go_simp) ⟨fun x h => Option.some.inj h, hI⟩
         ·have e7 : ρ (.tmp 7) = .pointer (some ⟨g, 0, none⟩) := hs 7; have hgd : V 12 = .bool false := hk 12 _ rfl
          refine ⟨fun _ => ?_, fun h => absurd hgd h⟩
          clear hT hF hk
          exact Reg.Gives.value (v := .pointer (some ⟨g, 0, none⟩)) (w' := wi) (by go_simp) ⟨fun x h => Option.some.inj h, hI⟩
         ·have e154 : ρ (.tmp 154) = .pointer (some ⟨g, 0, none⟩) := (hd 13 154).trans (hk 13 _ rfl); have hf := hE.func; have hgd : V 12 = .bool false := hk 12 _ rfl
          refine ⟨fun _ => ?_, fun h => absurd hgd h⟩
          clear hT hF
          refine Reg.Gives.call (f := 20) (args := #[.pointer (some ⟨g, 0, none⟩)]) (w' := wi) (by go_simp) ?_
          refine (show Calls Try.prog 20 #[.pointer (some ⟨g, 0, none⟩)] wi _ from (HOVR.out wi hI.low)).mono ?_
          rintro e w'' ⟨rfl, hb⟩
          exact ⟨_, rfl, fun x h => Option.some.inj h, by show Rd we q its nn (D 22) (V 22) (D 30) (V 30) (D 32) (V 32) (D 40) (V 40) (D 44) (V 44) (D 50) (V 50) (w''); exact hI.later hb⟩
         ·have e9 : ρ (.tmp 9) = .pointer (some ⟨gr, 0, none⟩) := hs 9; have hgd : V 12 = .bool false := hk 12 _ rfl
          refine ⟨fun _ => ?_, fun h => absurd hgd h⟩
          clear hT hF hk
          exact Reg.Gives.value (v := .pointer (some ⟨gr, 0, none⟩)) (w' := wi) (by go_simp) ⟨fun x h => Option.some.inj h, hI⟩
         ·have e156 : ρ (.tmp 156) = .pointer (some ⟨gr, 0, none⟩) := (hd 15 156).trans (hk 15 _ rfl); have hgd : V 12 = .bool false := hk 12 _ rfl
          refine ⟨fun _ => ?_, fun h => absurd hgd h⟩
          clear hT hF hk
          exact Reg.Gives.value (v := .pointer (some ⟨gr, 0, none⟩)) (w' := wi) (by go_simp) ⟨fun x h => Option.some.inj h, hI⟩
         ·have e157 : ρ (.tmp 157) = .pointer (some ⟨gr, 0, none⟩) := (hd 16 157).trans (hk 16 _ rfl); have hgd : V 12 = .bool false := hk 12 _ rfl
          refine ⟨fun _ => ?_, fun h => absurd hgd h⟩
          clear hT hF hk
          exact Reg.Gives.value (v := .pointer (some ⟨gr, 4, none⟩)) (w' := wi) (by go_simp) ⟨fun x h => Option.some.inj h, hI⟩
         ·have e158 : ρ (.tmp 158) = .pointer (some ⟨gr, 4, none⟩) := (hd 17 158).trans (hk 17 _ rfl); have hgd : V 12 = .bool false := hk 12 _ rfl
          refine ⟨fun _ => ?_, fun h => absurd hgd h⟩
          clear hT hF; have x4 := (HDD.out wi hI.low).box.cell (j := 4) rfl
          exact Reg.Gives.value (v := .int .i64 s) (w' := wi) (by go_simp) ⟨fun x h => Option.some.inj h, hI⟩
         ·have e159 : ρ (.tmp 159) = .int .i64 s := (hd 18 159).trans (hk 18 _ rfl); have hc := hE.const; have hgd : V 12 = .bool false := hk 12 _ rfl
          refine ⟨fun _ => ?_, fun h => absurd hgd h⟩
          clear hT hF; have z1 := HS0.out
          exact Reg.Gives.value (v := .bool true) (w' := wi) (by go_simp) ⟨fun x h => Option.some.inj h, hI⟩
         ·have e160 : ρ (.tmp 160) = .bool true := (hd 19 160).trans (hk 19 _ rfl); have hgd : V 12 = .bool false := hk 12 _ rfl
          refine ⟨fun _ => ?_, fun h => absurd hgd h⟩
          clear hT hF hk
          exact Reg.Gives.value (v := .bool true) (w' := wi) (by go_simp) ⟨fun x h => Option.some.inj h, hI⟩
         ·have e9 : ρ (.tmp 9) = .pointer (some ⟨gr, 0, none⟩) := hs 9; have hgd : V 20 = .bool true := hk 20 _ rfl
          refine ⟨fun _ => ?_, fun h => absurd hgd h⟩
          clear hT hF hk
          exact Reg.Gives.value (v := .pointer (some ⟨gr, 0, none⟩)) (w' := wi) (by go_simp) ⟨fun x h => Option.some.inj h, hI⟩
         ·have e162 : ρ (.tmp 162) = .pointer (some ⟨gr, 0, none⟩) := (hd 21 162).trans (hk 21 _ rfl); have hf := hE.func; have hgd : V 20 = .bool true := hk 20 _ rfl
          refine ⟨fun _ => ?_, fun h => absurd hgd h⟩
          clear hT hF
          refine Reg.Gives.call (f := 18) (args := #[.pointer (some ⟨gr, 0, none⟩)]) (w' := wi) (by go_simp) ?_
          refine (show Calls Try.prog 18 #[.pointer (some ⟨gr, 0, none⟩)] wi _ from (HWT.out wi hI.low)).mono ?_
          rintro e w'' ⟨⟨A1, c1, rfl, hn⟩, hb⟩
          exact ⟨_, rfl, fun x h => (by cases h), by show Rd we q its nn (true) (Value.slice A1 q.length c1) (D 30) (V 30) (D 32) (V 32) (D 40) (V 40) (D 44) (V 44) (D 50) (V 50) (w''); exact { hI.later hb with a := fun _ => ⟨A1, c1, rfl⟩ }⟩
         ·have e163 : ρ (.tmp 163) = V 22 := hd 22 163; have hgd : V 20 = .bool true := hk 20 _ rfl
          refine ⟨fun _ => ?_, fun h => absurd hgd h⟩
          have hD22 : D 22 = true := hT 1 22; clear hT hF; obtain ⟨A1, c1, hv⟩ := hI.a hD22
          rw [hv] at e163
          exact Reg.Gives.value (v := .int .i64 (q.length : Int)) (w' := wi) (by go_simp) ⟨fun x h => Option.some.inj h, hI⟩
         ·have e164 : ρ (.tmp 164) = .int .i64 (q.length : Int) := (hd 23 164).trans (hk 23 _ rfl); have hc := hE.const; have hgd : V 20 = .bool true := hk 20 _ rfl
          refine ⟨fun _ => ?_, fun h => absurd hgd h⟩
          clear hT hF; have z1 := HOV.out
          exact Reg.Gives.value (v := .bool ov) (w' := wi) (by go_simp) ⟨fun x h => Option.some.inj h, hI⟩
         ·have e161 : ρ (.tmp 161) = .bool true := (hd 20 161).trans (hk 20 _ rfl); have e165 : ρ (.tmp 165) = .bool ov := (hd 24 165).trans (hk 24 _ rfl); have hc := hE.const; have hgd : V 12 = .bool false := hk 12 _ rfl
          refine ⟨fun _ => ?_, fun h => absurd hgd h⟩
          clear hT hF hk
          exact Reg.Gives.value (v := .bool ov) (w' := wi) (by go_simp) ⟨fun x h => Option.some.inj h, hI⟩
         ·have e155 : ρ (.tmp 155) = .bool ov := (hd 14 155).trans (hk 14 _ rfl); have e166 : ρ (.tmp 166) = .bool ov := (hd 25 166).trans (hk 25 _ rfl); have hgd : V 12 = .bool false := hk 12 _ rfl
          refine ⟨fun _ => ?_, fun h => absurd hgd h⟩
          clear hT hF
          have z1 : (ov != ov) = false := by simp
          exact Reg.Gives.value (v := .bool false) (w' := wi) (by go_simp) ⟨fun x h => Option.some.inj h, hI⟩
         ·have e153 : ρ (.tmp 153) = .bool false := (hd 12 153).trans (hk 12 _ rfl); have e167 : ρ (.tmp 167) = .bool false := (hd 26 167).trans (hk 26 _ rfl); have hc := hE.const; clear hT hF hk
          exact Reg.Gives.value (v := .bool false) (w' := wi) (by go_simp) ⟨fun x h => Option.some.inj h, hI⟩
         ·have e168 : ρ (.tmp 168) = .bool false := (hd 27 168).trans (hk 27 _ rfl); clear hT hF hk
          exact Reg.Gives.value (v := .bool false) (w' := wi) (by go_simp) ⟨fun x h => Option.some.inj h, hI⟩
         ·have e7 : ρ (.tmp 7) = .pointer (some ⟨g, 0, none⟩) := hs 7; have hgd : V 28 = .bool false := hk 28 _ rfl
          refine ⟨fun _ => ?_, fun h => absurd hgd h⟩
          clear hT hF hk
          exact Reg.Gives.value (v := .pointer (some ⟨g, 0, none⟩)) (w' := wi) (by go_simp) ⟨fun x h => Option.some.inj h, hI⟩
         ·have e170 : ρ (.tmp 170) = .pointer (some ⟨g, 0, none⟩) := (hd 29 170).trans (hk 29 _ rfl); have hf := hE.func; have hgd : V 28 = .bool false := hk 28 _ rfl
          refine ⟨fun _ => ?_, fun h => absurd hgd h⟩
          clear hT hF
          refine Reg.Gives.call (f := 22) (args := #[.pointer (some ⟨g, 0, none⟩)]) (w' := wi) (by go_simp) ?_
          refine (show Calls Try.prog 22 #[.pointer (some ⟨g, 0, none⟩)] wi _ from (HWC.out wi hI.low)).mono ?_
          rintro e w'' ⟨⟨A1, c1, rfl, hn⟩, hb⟩
          exact ⟨_, rfl, fun x h => (by cases h), by show Rd we q its nn (D 22) (V 22) (true) (Value.slice A1 q.length c1) (D 32) (V 32) (D 40) (V 40) (D 44) (V 44) (D 50) (V 50) (w''); exact { hI.later hb with b := fun _ => ⟨A1, c1, rfl, hn⟩ }⟩
         ·have e9 : ρ (.tmp 9) = .pointer (some ⟨gr, 0, none⟩) := hs 9; have hgd : V 28 = .bool false := hk 28 _ rfl
          refine ⟨fun _ => ?_, fun h => absurd hgd h⟩
          clear hT hF hk
          exact Reg.Gives.value (v := .pointer (some ⟨gr, 0, none⟩)) (w' := wi) (by go_simp) ⟨fun x h => Option.some.inj h, hI⟩
         ·have e172 : ρ (.tmp 172) = .pointer (some ⟨gr, 0, none⟩) := (hd 31 172).trans (hk 31 _ rfl); have hf := hE.func; have hgd : V 28 = .bool false := hk 28 _ rfl
          refine ⟨fun _ => ?_, fun h => absurd hgd h⟩
          clear hT hF
          refine Reg.Gives.call (f := 18) (args := #[.pointer (some ⟨gr, 0, none⟩)]) (w' := wi) (by go_simp) ?_
          refine (show Calls Try.prog 18 #[.pointer (some ⟨gr, 0, none⟩)] wi _ from (HWT.out wi hI.low)).mono ?_
          rintro e w'' ⟨⟨A1, c1, rfl, hn⟩, hb⟩
          exact ⟨_, rfl, fun x h => (by cases h), by show Rd we q its nn (D 22) (V 22) (D 30) (V 30) (true) (Value.slice A1 q.length c1) (D 40) (V 40) (D 44) (V 44) (D 50) (V 50) (w''); exact { hI.later hb with c := fun _ => ⟨A1, c1, rfl, hn⟩ }⟩
         ·have e171 : ρ (.tmp 171) = V 30 := hd 30 171; have e173 : ρ (.tmp 173) = V 32 := hd 32 173; have hf := hE.func; have hgd : V 28 = .bool false := hk 28 _ rfl
          refine ⟨fun _ => ?_, fun h => absurd hgd h⟩
          have hD30 : D 30 = true := hT 1 30; have hD32 : D 32 = true := hT 1 32; clear hT hF; obtain ⟨A1, c1, hv, hn1⟩ := hI.b hD30; obtain ⟨A2, c2, hv2, hn2⟩ := hI.c hD32
          rw [hv] at e171
          rw [hv2] at e173
          refine Reg.Gives.call (f := 21) (args := #[.slice A1 q.length c1, .slice A2 q.length c2]) (w' := wi) (by go_simp) ?_
          refine (show Calls Try.prog 21 #[.slice A1 q.length c1, .slice A2 q.length c2] wi _ from (HSN.out wi A1 A2 c1 c2 hn1 hn2)).mono ?_
          rintro e w'' ⟨rfl, hb⟩
          exact ⟨_, rfl, fun x h => Option.some.inj h, by show Rd we q its nn (D 22) (V 22) (D 30) (V 30) (D 32) (V 32) (D 40) (V 40) (D 44) (V 44) (D 50) (V 50) (w''); exact hI.later hb⟩
         ·have e174 : ρ (.tmp 174) = .bool true := (hd 33 174).trans (hk 33 _ rfl); have hgd : V 28 = .bool false := hk 28 _ rfl
          refine ⟨fun _ => ?_, fun h => absurd hgd h⟩
          clear hT hF hk
          exact Reg.Gives.value (v := .bool false) (w' := wi) (by go_simp) ⟨fun x h => Option.some.inj h, hI⟩
         ·have e169 : ρ (.tmp 169) = .bool false := (hd 28 169).trans (hk 28 _ rfl); have e175 : ρ (.tmp 175) = .bool false := (hd 34 175).trans (hk 34 _ rfl); have hc := hE.const; clear hT hF hk
          exact Reg.Gives.value (v := .bool false) (w' := wi) (by go_simp) ⟨fun x h => Option.some.inj h, hI⟩
         ·have e176 : ρ (.tmp 176) = .bool false := (hd 35 176).trans (hk 35 _ rfl); clear hT hF hk
          exact Reg.Gives.value (v := .bool false) (w' := wi) (by go_simp) ⟨fun x h => Option.some.inj h, hI⟩
         ·have e7 : ρ (.tmp 7) = .pointer (some ⟨g, 0, none⟩) := hs 7; have hgd : V 36 = .bool false := hk 36 _ rfl
          refine ⟨fun _ => ?_, fun h => absurd hgd h⟩
          clear hT hF hk
          exact Reg.Gives.value (v := .pointer (some ⟨g, 0, none⟩)) (w' := wi) (by go_simp) ⟨fun x h => Option.some.inj h, hI⟩
         ·have e11 : ρ (.tmp 11) = .pointer (some ⟨xb, 0, none⟩) := hs 11; have hgd : V 36 = .bool false := hk 36 _ rfl
          refine ⟨fun _ => ?_, fun h => absurd hgd h⟩
          clear hT hF hk
          exact Reg.Gives.value (v := .pointer (some ⟨xb, 3, none⟩)) (w' := wi) (by go_simp) ⟨fun x h => Option.some.inj h, hI⟩
         ·have e179 : ρ (.tmp 179) = .pointer (some ⟨xb, 3, none⟩) := (hd 38 179).trans (hk 38 _ rfl); have hgd : V 36 = .bool false := hk 36 _ rfl
          refine ⟨fun _ => ?_, fun h => absurd hgd h⟩
          clear hT hF; have q3 := (HBX.out wi hI.low).cell (j := 3) rfl
          exact Reg.Gives.value (v := .slice oA lq oac) (w' := wi) (by go_simp) ⟨fun x h => Option.some.inj h, hI⟩
         ·have e178 : ρ (.tmp 178) = .pointer (some ⟨g, 0, none⟩) := (hd 37 178).trans (hk 37 _ rfl); have e180 : ρ (.tmp 180) = .slice oA lq oac := (hd 39 180).trans (hk 39 _ rfl); have hf := hE.func; have hgd : V 36 = .bool false := hk 36 _ rfl
          refine ⟨fun _ => ?_, fun h => absurd hgd h⟩
          clear hT hF
          refine Reg.Gives.call (f := 24) (args := #[.pointer (some ⟨g, 0, none⟩), .slice oA lq oac]) (w' := wi) (by go_simp) ?_
          refine (show Calls Try.prog 24 #[.pointer (some ⟨g, 0, none⟩), .slice oA lq oac] wi _ from (HIC.out wi hI.low)).mono ?_
          rintro e w'' ⟨⟨L, A1, c1, rfl, hj, hi⟩, hb⟩
          exact ⟨_, rfl, fun x h => (by cases h), by show Rd we q its nn (D 22) (V 22) (D 30) (V 30) (D 32) (V 32) (true) (Value.slice A1 L.length c1) (D 44) (V 44) (D 50) (V 50) (w''); exact { hI.later hb with d := fun _ => ⟨L, A1, c1, rfl, hj, hi⟩ }⟩
         ·have e9 : ρ (.tmp 9) = .pointer (some ⟨gr, 0, none⟩) := hs 9; have hgd : V 36 = .bool false := hk 36 _ rfl
          refine ⟨fun _ => ?_, fun h => absurd hgd h⟩
          clear hT hF hk
          exact Reg.Gives.value (v := .pointer (some ⟨gr, 0, none⟩)) (w' := wi) (by go_simp) ⟨fun x h => Option.some.inj h, hI⟩
         ·have e11 : ρ (.tmp 11) = .pointer (some ⟨xb, 0, none⟩) := hs 11; have hgd : V 36 = .bool false := hk 36 _ rfl
          refine ⟨fun _ => ?_, fun h => absurd hgd h⟩
          clear hT hF hk
          exact Reg.Gives.value (v := .pointer (some ⟨xb, 3, none⟩)) (w' := wi) (by go_simp) ⟨fun x h => Option.some.inj h, hI⟩
         ·have e183 : ρ (.tmp 183) = .pointer (some ⟨xb, 3, none⟩) := (hd 42 183).trans (hk 42 _ rfl); have hgd : V 36 = .bool false := hk 36 _ rfl
          refine ⟨fun _ => ?_, fun h => absurd hgd h⟩
          clear hT hF; have q3 := (HBX.out wi hI.low).cell (j := 3) rfl
          exact Reg.Gives.value (v := .slice oA lq oac) (w' := wi) (by go_simp) ⟨fun x h => Option.some.inj h, hI⟩
         ·have e182 : ρ (.tmp 182) = .pointer (some ⟨gr, 0, none⟩) := (hd 41 182).trans (hk 41 _ rfl); have e184 : ρ (.tmp 184) = .slice oA lq oac := (hd 43 184).trans (hk 43 _ rfl); have hf := hE.func; have hgd : V 36 = .bool false := hk 36 _ rfl
          refine ⟨fun _ => ?_, fun h => absurd hgd h⟩
          clear hT hF
          refine Reg.Gives.call (f := 25) (args := #[.pointer (some ⟨gr, 0, none⟩), .slice oA lq oac]) (w' := wi) (by go_simp) ?_
          refine (show Calls Try.prog 25 #[.pointer (some ⟨gr, 0, none⟩), .slice oA lq oac] wi _ from (HIR.out wi hI.low)).mono ?_
          rintro e w'' ⟨⟨L, A1, c1, rfl, hj, hi⟩, hb⟩
          exact ⟨_, rfl, fun x h => (by cases h), by show Rd we q its nn (D 22) (V 22) (D 30) (V 30) (D 32) (V 32) (D 40) (V 40) (true) (Value.slice A1 L.length c1) (D 50) (V 50) (w''); exact { hI.later hb with e := fun _ => ⟨L, A1, c1, rfl, hj, hi⟩ }⟩
         ·have e181 : ρ (.tmp 181) = V 40 := hd 40 181; have e185 : ρ (.tmp 185) = V 44 := hd 44 185; have hf := hE.func; have hgd : V 36 = .bool false := hk 36 _ rfl
          refine ⟨fun _ => ?_, fun h => absurd hgd h⟩
          have hD40 : D 40 = true := hT 1 40; have hD44 : D 44 = true := hT 1 44; clear hT hF; obtain ⟨L1, A1, c1, hv, hj1, hn1⟩ := hI.d hD40; obtain ⟨L2, A2, c2, hv2, hj2, hn2⟩ := hI.e hD44
          rw [hv] at e181
          rw [hv2] at e185
          refine Reg.Gives.call (f := 23) (args := #[.slice A1 L1.length c1, .slice A2 L2.length c2]) (w' := wi) (by go_simp) ?_
          refine (show Calls Try.prog 23 #[.slice A1 L1.length c1, .slice A2 L2.length c2] wi _ from (HSI.out wi L1 L2 A1 A2 c1 c2 hj1 hj2 hn1 hn2)).mono ?_
          rintro e w'' ⟨rfl, hb⟩
          exact ⟨_, rfl, fun x h => Option.some.inj h, by show Rd we q its nn (D 22) (V 22) (D 30) (V 30) (D 32) (V 32) (D 40) (V 40) (D 44) (V 44) (D 50) (V 50) (w''); exact hI.later hb⟩
         ·have e186 : ρ (.tmp 186) = .bool true := (hd 45 186).trans (hk 45 _ rfl); have hgd : V 36 = .bool false := hk 36 _ rfl
          refine ⟨fun _ => ?_, fun h => absurd hgd h⟩
          clear hT hF hk
          exact Reg.Gives.value (v := .bool false) (w' := wi) (by go_simp) ⟨fun x h => Option.some.inj h, hI⟩
         ·have e177 : ρ (.tmp 177) = .bool false := (hd 36 177).trans (hk 36 _ rfl); have e187 : ρ (.tmp 187) = .bool false := (hd 46 187).trans (hk 46 _ rfl); have hc := hE.const; clear hT hF hk
          exact Reg.Gives.value (v := .bool false) (w' := wi) (by go_simp) ⟨fun x h => Option.some.inj h, hI⟩
         ·have e188 : ρ (.tmp 188) = .bool false := (hd 47 188).trans (hk 47 _ rfl); clear hT hF hk
          exact Reg.Gives.value (v := .bool false) (w' := wi) (by go_simp) ⟨fun x h => Option.some.inj h, hI⟩
         ·have e7 : ρ (.tmp 7) = .pointer (some ⟨g, 0, none⟩) := hs 7; have hgd : V 48 = .bool false := hk 48 _ rfl
          refine ⟨fun _ => ?_, fun h => absurd hgd h⟩
          clear hT hF hk
          exact Reg.Gives.value (v := .pointer (some ⟨g, 0, none⟩)) (w' := wi) (by go_simp) ⟨fun x h => Option.some.inj h, hI⟩
         ·have e190 : ρ (.tmp 190) = .pointer (some ⟨g, 0, none⟩) := (hd 49 190).trans (hk 49 _ rfl); have hf := hE.func; have hgd : V 48 = .bool false := hk 48 _ rfl
          refine ⟨fun _ => ?_, fun h => absurd hgd h⟩
          clear hT hF
          refine Reg.Gives.call (f := 26) (args := #[.pointer (some ⟨g, 0, none⟩)]) (w' := wi) (by go_simp) ?_
          refine (show Calls Try.prog 26 #[.pointer (some ⟨g, 0, none⟩)] wi _ from (HND.out wi hI.low)).mono ?_
          rintro e w'' ⟨⟨A1, c1, rfl⟩, hb⟩
          exact ⟨_, rfl, fun x h => (by cases h), by show Rd we q its nn (D 22) (V 22) (D 30) (V 30) (D 32) (V 32) (D 40) (V 40) (D 44) (V 44) (true) (Value.slice A1 nn c1) (w''); exact { hI.later hb with f := fun _ => ⟨A1, c1, rfl⟩ }⟩
         ·have e191 : ρ (.tmp 191) = V 50 := hd 50 191; have hgd : V 48 = .bool false := hk 48 _ rfl
          refine ⟨fun _ => ?_, fun h => absurd hgd h⟩
          have hD50 : D 50 = true := hT 1 50; clear hT hF; obtain ⟨A1, c1, hv⟩ := hI.f hD50
          rw [hv] at e191
          exact Reg.Gives.value (v := .int .i64 (nn : Int)) (w' := wi) (by go_simp) ⟨fun x h => Option.some.inj h, hI⟩
         ·have e1 : ρ (.tmp 1) = .slice O nn oc := hs 1; have hgd : V 48 = .bool false := hk 48 _ rfl
          refine ⟨fun _ => ?_, fun h => absurd hgd h⟩
          clear hT hF hk
          exact Reg.Gives.value (v := .slice O nn oc) (w' := wi) (by go_simp) ⟨fun x h => Option.some.inj h, hI⟩
         ·have e193 : ρ (.tmp 193) = .slice O nn oc := (hd 52 193).trans (hk 52 _ rfl); have hgd : V 48 = .bool false := hk 48 _ rfl
          refine ⟨fun _ => ?_, fun h => absurd hgd h⟩
          clear hT hF hk
          exact Reg.Gives.value (v := .int .i64 (nn : Int)) (w' := wi) (by go_simp) ⟨fun x h => Option.some.inj h, hI⟩
         ·have e192 : ρ (.tmp 192) = .int .i64 (nn : Int) := (hd 51 192).trans (hk 51 _ rfl); have e194 : ρ (.tmp 194) = .int .i64 (nn : Int) := (hd 53 194).trans (hk 53 _ rfl); have hgd : V 48 = .bool false := hk 48 _ rfl
          refine ⟨fun _ => ?_, fun h => absurd hgd h⟩
          clear hT hF
          have z1 : ((nn : Int) != (nn : Int)) = false := by simp
          exact Reg.Gives.value (v := .bool false) (w' := wi) (by go_simp) ⟨fun x h => Option.some.inj h, hI⟩
         ·have e189 : ρ (.tmp 189) = .bool false := (hd 48 189).trans (hk 48 _ rfl); have e195 : ρ (.tmp 195) = .bool false := (hd 54 195).trans (hk 54 _ rfl); have hc := hE.const; clear hT hF hk
          exact Reg.Gives.value (v := .bool false) (w' := wi) (by go_simp) ⟨fun x h => Option.some.inj h, hI⟩
        ·intro V wf hk hI
         have hV55 : V 55 = .bool false := hk 55 (by show _ < 56; decide) _ rfl
         simp only [Reg.putsO, List.foldl_cons, List.foldl_nil, Act.put, List.setIfInBounds_toArray, List.set_cons_succ, List.set_cons_zero, hV55]
         replace hI : Rd we q its nn true (V 22) true (V 30) true (V 32) true (V 40) true (V 44) true (V 50) (wf) := hI
         clear hk hV55
         have HLOW : Hid (Below we.heap.size we wf) := Lib.hid hI.low
         have HBF := Lib.hid (HBO'.out.later HLOW.out)
         have HWF : Hid (Below w.heap.size w wf ∧ T2 ≤ wf.heap.size) := Lib.hid ⟨HB'.out.1.trans (HLOW.out.mono HB'.out.1.size), by have := HXB.out; have := HB'.out; have := HLOW.out.size; omega⟩
         clear hI
         go_wp2_with fail
         go_roundw
         case rel => exact ⟨z + 1, ab, l, m, s, by first | rw [hwz] | go_num, by omega, by omega, HBF, HSM', HWF⟩
         case measure => simp [intOf]; omega
      ·have e0 : decide (z < (nu : Int)) = false := decide_eq_false hzn
       go_wp2_with fail
       go_returns
       exact ⟨rfl, HB.out.1⟩
theorem opened {H : Type} {enc : TypeId × Value → H} {W : World} {base : Nat} {gs : List (DataW H)} (v0 : Value) (d0 : DataW H) (p0 : List MemPlace) (v1 : Value) (d1 : DataW H) (p1 : List MemPlace) (v2 : Value) (d2 : DataW H) (p2 : List MemPlace)
  (o0 : Value.okWide Try.prog W .any base 23 v0) (t0 : DataW.Trod enc Try.prog W 0 (fun _ => true) true 23 v0 d0 p0)
  (o1 : Value.okWide Try.prog W .any base 24 v1) (t1 : DataW.Trod enc Try.prog W 0 (fun _ => true) true 24 v1 d1 p1)
  (o2 : Value.okWide Try.prog W .any base 25 v2) (t2 : DataW.Trod enc Try.prog W 0 (fun _ => true) true 25 v2 d2 p2)
  (hsz : (DataW.weightsEach Try.prog ([23, 24, 25] ++ []) ([d0, d1, d2] ++ gs)).all (· ≤ reachBytes) = true) :
  Calls Try.prog 3 #[v0, v1, v2] W fun e W' => e = .returned (.bool true) ∧ Below W.heap.size W W' := by
 obtain ⟨t, rfl⟩ := arg_tid o0 t0 (Base.small_of hsz (j := 0) rfl rfl)
 obtain ⟨a0, len, cap, rfl⟩ := okWide_slice Try.underlying24 o1
 obtain ⟨O, ps, oc, e, h3, h4⟩ := came_parts (came_of t1 (Base.small_of hsz (j := 1) rfl rfl) (by simp [Value.cells]))
 rw [e]
 obtain ⟨a1, len1, cap1, rfl⟩ := okWide_slice Try.underlying25 o2
 obtain ⟨U, os, uc, e2, h5, h6⟩ := came_ops (came_of t2 (Base.small_of hsz (j := 2) rfl rfl) (by simp [Value.cells]))
 rw [e2]
 exact walk t O ps oc U os uc W h3 h4 h5 h6
theorem contract (H : Type) (enc : TypeId × Value → H) (W : World) (base : Nat) (args : Array Value) (ds gs : List (DataW H)) (before : List MemPlace)
  (hval : ∀ (j : Nat) t v, Try.f3.params[j]? = some t → args[j]? = some v → Value.okWide Try.prog W .any base t v)
  (hW : DataW.Whole enc Try.prog Try.f3.params.toList Rows.votePlaysSpec.vars false W args.toList ds gs before)
  (hsz : (DataW.weightsEach Try.prog (Try.f3.params.toList ++ []) (ds ++ gs)).all (· ≤ reachBytes) = true) :
  Calls Try.prog 3 args W fun e W' => ∃ v, e = .returned v ∧ Rows.votePlaysSpec.post enc Try.prog Try.f3 false true false false W args v W' := by
 have hW0 := hW
 obtain ⟨p, q, hA0, hV, rfl, _, _⟩ := hW
 have hA : DataW.TrodAll enc Try.prog W 0 (fun _ => true) true Try.f3.params.toList args.toList ds p := hA0
 rw [Try.params3] at hA hval hsz
 obtain ⟨v0, vs0, d0, ds0, p0, q0, hargs, rfl, rfl, h0, r0⟩ := trodAll_cons hA
 obtain ⟨v1, vs1, d1, ds1, p1, q1, rfl, rfl, rfl, h1, r1⟩ := trodAll_cons r0
 obtain ⟨v2, vs2, d2, ds2, p2, q2, rfl, rfl, rfl, h2, r2⟩ := trodAll_cons r1
 obtain ⟨rfl, rfl, rfl⟩ := trodAll_nil r2
 obtain rfl : args = #[v0, v1, v2] := by cases args; simp_all
 refine (opened v0 d0 p0 v1 d1 p1 v2 d2 p2 (hval 0 23 v0 rfl rfl) h0 (hval 1 24 v1 rfl rfl) h1 (hval 2 25 v2 rfl rfl) h2 hsz).mono fun e W' ⟨he, hb⟩ => ⟨_, he, ?_⟩
 exact Base.law_post (tb := 4) Base.laidOut (by kernel_rfl) rfl Try.underlying4 rfl (fun l hl => by
  rw [Try.params3] at hl
  match l, hl with
  | [_, _, _], _ => rfl) (by rw [Try.params3]; rfl) hW0 hb
theorem laid_met (os : Os) : laidMet Try.prog Rows.votePlaysRow.laid ((Base.plainWorld os).forCall (fun _ _ => 0) ⟨#[], #[.agg #[.int .i64 0, .int .i64 0, .int .i64 0], .slice none 0 0, .slice none 0 0], []⟩).memory := laidMet_nil _ _
theorem reads (os : Os) {H : Type} (enc : TypeId × Value → H) : ∃ places, DataW.whole enc Try.prog ((Base.plainWorld os).forCall (fun _ _ => 0) ⟨#[], #[.agg #[.int .i64 0, .int .i64 0, .int .i64 0], .slice none 0 0, .slice none 0 0], []⟩).memory Try.f3.params.toList Rows.votePlaysSpec.vars false (#[.agg #[.int .i64 0, .int .i64 0, .int .i64 0], .slice none 0 0, .slice none 0 0] : Array Value).toList 8 = some ([.agg [.lit (.int .i64 0), .lit (.int .i64 0), .lit (.int .i64 0)], .nil, .nil], [], places) :=
 ⟨[], by kernel_rfl⟩
set_option maxRecDepth 100000 in
theorem lifted (os : Os) (started : os.Started) (H : Type) (enc : TypeId × Value → H) (F : Stop.Interp) :
  ReturnsInHanded {} Try.checked os 3 .any ((OpenSpec.ofChange Rows.votePlaysSpec).preRow enc Try.prog Try.f3 Rows.votePlaysRow.domain false Rows.votePlaysRow.laid) (((OpenSpec.ofChange Rows.votePlaysSpec).at F).post enc Try.prog Try.f3 false true false false) := by
 obtain ⟨places, hx⟩ := reads os enc
 refine returnsInHanded_of_row (C := Try.checked) (s := OpenSpec.ofChange Rows.votePlaysSpec) Base.own started (by kernel_rfl) Try.func3
  (witness_row_at (enc := enc) (C := Try.checked) false (Base.plainWorld os) #[.agg #[.int .i64 0, .int .i64 0, .int .i64 0], .slice none 0 0, .slice none 0 0] rfl (by kernel_rfl) (by kernel_rfl) (by kernel_rfl)
   (OpenSpec.preRow_of_cond 8 hx (by kernel_rfl) (fun k hk => by cases hk) (by kernel_rfl) (laid_met os))) ?_
 intro W base args ds gs before hval hW _ _ hsz _ _ _
 exact contract H enc W base args ds gs before hval hW hsz
theorem said : Rows.VotePlaysSaid :=
 OpenClaim.holds_of_cond 3 Try.f3 rfl rfl rfl rfl rfl rfl rfl ⟨rfl, rfl, rfl, rfl, rfl⟩ rfl rfl rfl rfl rfl (by kernel_rfl) Try.func3 (by kernel_rfl)
  (of_decide_eq_true (by kernel_rfl)) (by unfold Func.isWrapper; rw [if_neg (of_decide_eq_false (by kernel_rfl))]; exact ⟨rfl, rfl⟩)
  (fun os started H enc _ F => by rw [OpenClaim.pre_eq_preRow]; exact lifted os started H enc F)
#print axioms said
end Go.Proofs.Ytjeogeablbkhgaa.VotePlays
