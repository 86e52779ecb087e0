/-
  Layer 19: rightParts of a ballot.
  Conditions: none.
-/
import Derived.Test.YtjeogeablbkhgaaP38
import Derived.Test.YtjeogeablbkhgaaP28
import Derived.Lib.Hide
import Derived.Deep.CutBlock
import Derived.OpenShut
import Derived.WalkLawsBesides
import Derived.WalkSpells
import Derived.Handy
namespace Go.Proofs.Ytjeogeablbkhgaa.Vot
set_option maxRecDepth 100000
open Go.RowKit Go.Deep Go.Proofs.Ytjeogeablbkhgaa.Mem Go.Proofs.Ytjeogeablbkhgaa.Item
theorem copy_part (w : World) (s : Sd) : Below w.heap.size w (w.alloc (.cells #[.int .i64 s.node, .slice s.A s.its.length s.c] 55)) ∧
  Cells (w.alloc (.cells #[.int .i64 s.node, .slice s.A s.its.length s.c] 55)) w.heap.size 55 (pv s) := ⟨below_alloc _ _, cells_new _ _ _ _ rfl⟩
theorem ok_items {ps : List Sd} {k : Nat} {s : Sd} (h : ps.take (k + 1) = ps.take k ++ [s]) : okItems (ps.take (k + 1)) = (okItems (ps.take k) && rightItems s.its) := by
 unfold okItems
 rw [h, List.all_append, List.all_cons, List.all_nil, Bool.and_true]
theorem not_ok {ps : List Sd} {s : Sd} (h : s ∈ ps) (hr : rightItems s.its = false) : okParts ps = false := by
 unfold okParts okItems
 have : (ps.all fun x => rightItems x.its) = false := by rw [List.all_eq_false]; exact ⟨s, h, by rw [hr]; decide⟩
 rw [this]
 rfl
theorem own_two {ea eb : TypeId} {sa sb B n c m d : Nat} {va vb : Sd → List Value} {w w1 : World} {V X : Option Addr} {la lb : List Sd} (ha : OwnG ea sa va B w (.slice V n c) la) (hb : OwnG eb sb vb B w (.slice X m d) lb) (h : Below w.heap.size w w1) :
  OwnG ea sa va B w1 (.slice V n c) la ∧ OwnG eb sb vb B w1 (.slice X m d) lb := ⟨ha.later h, hb.later h⟩
set_option maxHeartbeats 2000000 in
theorem rightParts_any {w : World} {O : Option Addr} {ps : List Sd} {oc : Nat} (h : Parts w O ps) (hl : ps.length ≤ 40) :
  Calls Try.prog 28 #[.slice O ps.length oc] w fun e w' => e = .returned (.bool (okParts ps)) ∧ Below w.heap.size w w' := by
 have HH := Lib.hid h
 obtain ⟨ans, hans⟩ : ∃ b, okParts ps = b := ⟨_, rfl⟩
 have HANS := Lib.hid hans
 obtain ⟨n, hn⟩ : ∃ n, ps.length = n := ⟨_, rfl⟩
 rw [hn] at hl ⊢
 rw [hans]
 have HN := Lib.hid hn
 clear h hn hans
 go_enter Try.func28, Try.ntmps28
 go_wp2_with fail
 go_loopw [3, 4, 6, 9] (fun a b _ i wr => ∃ (k : Nat) (V0 : Option Addr) (nn vc : Nat) (X0 : Option Addr) (xn xc : Nat), k ≤ n ∧ i = .int .i64 (k : Int) ∧ a = .slice V0 nn vc ∧ b = .slice X0 xn xc ∧ Hid (okItems (ps.take k) = true) ∧ Hid (OwnG 3 1 nv w.heap.size wr (.slice V0 nn vc) (ps.take k) ∧ OwnG 49 1 lv w.heap.size wr (.slice X0 xn xc) (ps.take k) ∧ ∀ j, blk V0 = some j → blk X0 ≠ some j) ∧ Hid (Below w.heap.size w wr)) (fun _ _ _ i _ => n - (intOf i).toNat)
 case atStart => exact ⟨0, none, 0, 0, none, 0, 0, Nat.zero_le _, rfl, rfl, rfl, Lib.hid rfl, Lib.hid ⟨OwnG.nil _ _ _ _ _, OwnG.nil _ _ _ _ _, fun j e => by cases e⟩, Lib.hid (Below.refl _ _)⟩
 case round =>
  obtain ⟨k, V0, nn, vc, X0, xn, xc, hk, rfl, rfl, rfl, HOK, HV, HB⟩ := hrel
  by_cases hlt : k < n
  ·have hkl : k < ps.length := by rw [HN.out]; exact hlt
   have hh := HH.out.later HB.out
   obtain ⟨g, off, rfl, hr⟩ := hh.at hkl
   have hM := List.getElem_mem hkl
   obtain ⟨s, hs⟩ : ∃ s, ps[k] = s := ⟨_, rfl⟩
   have HTM := Lib.hid (take_more hkl hs)
   rw [hs] at hr hM
   have HM := Lib.hid hM
   have hit := hh.2 s hM
   have x0 : wr.cell? ⟨g, off + k * 2, none⟩ = _ := hr 0 _ rfl
   have x1 := hr 1 _ rfl
   obtain ⟨hbb, hcb⟩ := copy_part wr s
   obtain ⟨m, hm⟩ : ∃ m, s.its.length = m := ⟨_, rfl⟩
   have HMM := Lib.hid hm
   unfold pv at hcb
   rw [hm] at x1 hbb hcb
   obtain ⟨wb, hwb⟩ : ∃ W, W = wr.alloc (.cells #[.int .i64 s.node, .slice s.A m s.c] 55) := ⟨_, rfl⟩
   rw [← hwb] at hbb hcb
   have HB2 := Lib.hid (HB.out.trans (hbb.mono HB.out.size))
   have HV2 := Lib.hid (And.intro (own_two HV.out.1 HV.out.2.1 hbb) HV.out.2.2)
   have hri := rightItems_any s.A s.its s.c wb (hit.1.later hbb) (by have := hit.2.2; omega)
   rw [hm] at hri
   have HRI := Lib.hid hri
   obtain ⟨pb, hpb⟩ : ∃ p, wr.heap.size = p := ⟨_, rfl⟩
   have HPL : Hid (w.heap.size ≤ pb ∧ pb < wb.heap.size ∧ (∀ j, blk V0 = some j → j ≠ pb) ∧ ∀ j, blk X0 = some j → j ≠ pb) := Lib.hid ⟨by rw [← hpb]; exact HB.out.size, by rw [← hpb]; exact hcb.lt, fun j e => (by have := (HV.out.1.lt (by rw [own_blk]; exact e)).2; omega), fun j e => (by have := (HV.out.2.1.lt (by rw [own_blk]; exact e)).2; omega)⟩
   have y1 := hcb.cell (j := 1) rfl
   have HCB := Lib.hid hcb
   clear hkl hh hs hr hM hit hbb hcb hm hri HB HV
   go_upto_region 6 with (fail)
   rw [← hwb]
   clear hwb x0 x1
   rw [hpb] at HCB y1
   clear hpb
   obtain ⟨ri, hri⟩ : ∃ b, rightItems s.its = b := ⟨_, rfl⟩
   rw [hri] at HRI
   have HRE := Lib.hid hri
   clear hri
   go_wp2_with fail
   refine HRI.out.mono ?_
   rintro e we ⟨rfl, hb2⟩
   have HB3 := Lib.hid (HB2.out.trans (hb2.mono HB2.out.size))
   have HV3 := Lib.hid (And.intro (own_two HV2.out.1.1 HV2.out.1.2 hb2) HV2.out.2)
   have HCE := Lib.hid (HCB.out.later hb2)
   clear hb2 HRI y1
   cases ri with
   | false =>
    have HF : Hid (ans = false) := Lib.hid (by rw [← HANS.out]; exact not_ok HM.out HRE.out)
    go_wp2_with fail
    go_returns
    exact ⟨ret_val (congrArg Value.bool HF.out.symm), HB3.out⟩
   | true =>
    have HPB : Hid (∀ wi, Only (fun j => (Value.slice V0 nn vc).ownBlock = some j ∨ (Value.slice X0 xn xc).ownBlock = some j) we wi → Cells wi pb 55 [.int .i64 s.node, .slice s.A m s.c]) := Lib.hid fun wi ho => cells_only HCE.out ho fun e => by
     rcases e with e | e
     ·rw [own_blk] at e; exact HPL.out.2.2.1 _ e rfl
     ·rw [own_blk] at e; exact HPL.out.2.2.2 _ e rfl
    have HST : Hid (∀ (V : Nat → Value) W, Below we.heap.size we W → ApT 3 49 1 1 nv lv w.heap.size (.slice V0 nn vc) (.slice X0 xn xc) (ps.take k) (ps.take k) s we false (V 3) false (V 4) false (V 8) false (V 9) W) := Lib.hid fun V W hb => ApT.start hb HB3.out.size HV3.out.1.1 HV3.out.1.2 (fun j e e2 => by rw [own_blk] at e e2; exact HV3.out.2 j e e2) _ _ _ _
    have HLEN : Hid ((ps.take k).length ≤ 1000) := Lib.hid (by rw [List.length_take]; omega)
    clear HCB HCE HV2
    go_upto_region 8 with (fail)
    refine Reg.region_inv (by kernel_rfl) (fun i => ([some (.slice V0 nn vc), some (.pointer (some ⟨pb, 0, none⟩)), some (.int .i64 s.node), none, none, some (.slice X0 xn xc), some (.pointer (some ⟨pb, 1, none⟩)), some (.slice s.A m s.c), none, none, none, none] : List (Option Value)).getD i none) (fun D V W => ApT 3 49 1 1 nv lv w.heap.size (.slice V0 nn vc) (.slice X0 xn xc) (ps.take k) (ps.take k) s we (D 3) (V 3) (D 4) (V 4) (D 8) (V 8) (D 9) (V 9) (W) ∧ ((D 10) = true → (V 10) = (V 4) ∧ (D 4) = true) ∧ ((D 11) = true → (V 11) = (V 9) ∧ (D 9) = true)) (fun V => [(some 17, V 0), (some 18, V 1), (some 19, V 2), (some 20, V 3), (some 21, V 4), (some 22, V 5), (some 23, V 6), (some 24, V 7), (some 25, V 8), (some 26, V 9), (some 3, V 10), (some 4, V 11)]) (by kernel_rfl) (by kernel_rfl) (fun V => rfl) ?_ ?_ ?_
    ·intro V
     exact ⟨HST.out V _ (Below.refl _ _).drew, fun e => (by cases e), fun e => (by cases e)⟩
    ·intro i o ho
     have hi : i < 12 := (Array.getElem?_eq_some_iff.1 ho).1
     rcases i with _ | _ | _ | _ | _ | _ | _ | _ | _ | _ | _ | _ | i
     rotate_right
     ·omega
     all_goals obtain rfl := Option.some.inj ho
     all_goals intro D V ρ wi hE hI hDi hT hF hs hd hk
     ·have e3 : ρ (.tmp 3) = .slice V0 nn vc := hs 3; clear hT hF hk
      exact Reg.Gives.value (v := .slice V0 nn vc) (w' := wi) (by go_simp) ⟨fun x h => Option.some.inj h, hI⟩
     ·have e6 : ρ (.tmp 6) = .pointer (some ⟨pb, 0, none⟩) := hs 6; clear hT hF hk
      exact Reg.Gives.value (v := .pointer (some ⟨pb, 0, none⟩)) (w' := wi) (by go_simp) ⟨fun x h => Option.some.inj h, hI⟩
     ·have e18 : ρ (.tmp 18) = .pointer (some ⟨pb, 0, none⟩) := (hd 1 18).trans (hk 1 _ rfl); clear hT hF; have q0 := (HPB.out wi hI.1.low).cell (j := 0) rfl
      exact Reg.Gives.value (v := .int .i64 s.node) (w' := wi) (by go_simp) ⟨fun x h => Option.some.inj h, hI⟩
     ·have e19 : ρ (.tmp 19) = .int .i64 s.node := (hd 2 19).trans (hk 2 _ rfl); have hD3 : D 3 = false := hDi; clear hT hF; obtain ⟨h1, h2, h3⟩ := hI
      rw [hD3] at h1
      exact Reg.Gives.value (v := .slice (some ⟨wi.heap.size, 0, none⟩) 1 1) (w' := wi.alloc (.cells #[.int .i64 s.node] 3)) (by go_simp) ⟨fun x h => (by cases h), by show ApT 3 49 1 1 nv lv w.heap.size (.slice V0 nn vc) (.slice X0 xn xc) (ps.take k) (ps.take k) s we (true) (.slice (some ⟨wi.heap.size, 0, none⟩) 1 1) (D 4) (V 4) (D 8) (V 8) (D 9) (V 9) (wi.alloc (.cells #[.int .i64 s.node] 3)) ∧ ((D 10) = true → (V 10) = (V 4) ∧ (D 4) = true) ∧ ((D 11) = true → (V 11) = (V 9) ∧ (D 9) = true); exact ⟨h1.mka _ rfl, h2, h3⟩⟩
     ·have e17 : ρ (.tmp 17) = .slice V0 nn vc := (hd 0 17).trans (hk 0 _ rfl); have e20 : ρ (.tmp 20) = V 3 := hd 3 20; have hD3 : D 3 = true := hT 1 3; have hD4 : D 4 = false := hDi; have hD10 : D 10 = false := hF 1 10; clear hT hF; obtain ⟨h1, h2, h3⟩ := hI
      rw [hD3, hD4] at h1
      have hD10 : D 10 = false := by cases h : D 10 with | false => rfl | true => have := (h2 h).2; rw [hD4] at this; cases this
      obtain ⟨g2, A2, n2, c2, w2, hv, hrun, hn⟩ := h1.apa elI (fit_fv fun x : Sd => x.node) HLEN.out
      rw [hv] at e20
      exact Reg.Gives.value (v := .slice A2 n2 c2) (w' := w2) (Reg.exec_append rfl e17 e20 hrun) ⟨fun x h => (by cases h), by show ApT 3 49 1 1 nv lv w.heap.size (.slice V0 nn vc) (.slice X0 xn xc) (ps.take k) (ps.take k) s we (D 3) (V 3) (true) (.slice A2 n2 c2) (D 8) (V 8) (D 9) (V 9) (w2) ∧ ((D 10) = true → (V 10) = (.slice A2 n2 c2) ∧ (true) = true) ∧ ((D 11) = true → (V 11) = (V 9) ∧ (D 9) = true); rw [hD3, hD10]; exact ⟨hn, fun e => (by cases e), h3⟩⟩
     ·have e4 : ρ (.tmp 4) = .slice X0 xn xc := hs 4; clear hT hF hk
      exact Reg.Gives.value (v := .slice X0 xn xc) (w' := wi) (by go_simp) ⟨fun x h => Option.some.inj h, hI⟩
     ·have e6 : ρ (.tmp 6) = .pointer (some ⟨pb, 0, none⟩) := hs 6; clear hT hF hk
      exact Reg.Gives.value (v := .pointer (some ⟨pb, 1, none⟩)) (w' := wi) (by go_simp) ⟨fun x h => Option.some.inj h, hI⟩
     ·have e23 : ρ (.tmp 23) = .pointer (some ⟨pb, 1, none⟩) := (hd 6 23).trans (hk 6 _ rfl); clear hT hF; have q1 := (HPB.out wi hI.1.low).cell (j := 1) rfl
      exact Reg.Gives.value (v := .slice s.A m s.c) (w' := wi) (by go_simp) ⟨fun x h => Option.some.inj h, hI⟩
     ·have e24 : ρ (.tmp 24) = .slice s.A m s.c := (hd 7 24).trans (hk 7 _ rfl); have hD8 : D 8 = false := hDi; clear hT hF; obtain ⟨h1, h2, h3⟩ := hI
      rw [hD8] at h1
      exact Reg.Gives.value (v := .slice (some ⟨wi.heap.size, 0, none⟩) 1 1) (w' := wi.alloc (.cells #[.slice s.A m s.c] 49)) (by go_simp) ⟨fun x h => (by cases h), by show ApT 3 49 1 1 nv lv w.heap.size (.slice V0 nn vc) (.slice X0 xn xc) (ps.take k) (ps.take k) s we (D 3) (V 3) (D 4) (V 4) (true) (.slice (some ⟨wi.heap.size, 0, none⟩) 1 1) (D 9) (V 9) (wi.alloc (.cells #[.slice s.A m s.c] 49)) ∧ ((D 10) = true → (V 10) = (V 4) ∧ (D 4) = true) ∧ ((D 11) = true → (V 11) = (V 9) ∧ (D 9) = true); exact ⟨h1.mkb _ (by rw [← HMM.out]; rfl), h2, h3⟩⟩
     ·have e22 : ρ (.tmp 22) = .slice X0 xn xc := (hd 5 22).trans (hk 5 _ rfl); have e25 : ρ (.tmp 25) = V 8 := hd 8 25; have hD8 : D 8 = true := hT 1 8; have hD9 : D 9 = false := hDi; have hD11 : D 11 = false := hF 1 11; clear hT hF; obtain ⟨h1, h2, h3⟩ := hI
      rw [hD8, hD9] at h1
      have hD11 : D 11 = false := by cases h : D 11 with | false => rfl | true => have := (h3 h).2; rw [hD9] at this; cases this
      obtain ⟨g2, A2, n2, c2, w2, hv, hrun, hn⟩ := h1.apb el_lists fit_lv HLEN.out
      rw [hv] at e25
      exact Reg.Gives.value (v := .slice A2 n2 c2) (w' := w2) (Reg.exec_append rfl e22 e25 hrun) ⟨fun x h => (by cases h), by show ApT 3 49 1 1 nv lv w.heap.size (.slice V0 nn vc) (.slice X0 xn xc) (ps.take k) (ps.take k) s we (D 3) (V 3) (D 4) (V 4) (D 8) (V 8) (true) (.slice A2 n2 c2) (w2) ∧ ((D 10) = true → (V 10) = (V 4) ∧ (D 4) = true) ∧ ((D 11) = true → (V 11) = (.slice A2 n2 c2) ∧ (true) = true); rw [hD8, hD11]; exact ⟨hn, h2, fun e => (by cases e)⟩⟩
     ·have e21 : ρ (.tmp 21) = V 4 := hd 4 21; have hD4 : D 4 = true := hT 1 4; clear hT hF
      exact Reg.Gives.value (v := V 4) (w' := wi) (by go_simp) ⟨fun x h => (by cases h), by show ApT 3 49 1 1 nv lv w.heap.size (.slice V0 nn vc) (.slice X0 xn xc) (ps.take k) (ps.take k) s we (D 3) (V 3) (D 4) (V 4) (D 8) (V 8) (D 9) (V 9) (wi) ∧ ((true) = true → (V 4) = (V 4) ∧ (D 4) = true) ∧ ((D 11) = true → (V 11) = (V 9) ∧ (D 9) = true); exact ⟨hI.1, fun _ => ⟨rfl, hD4⟩, hI.2.2⟩⟩
     ·have e26 : ρ (.tmp 26) = V 9 := hd 9 26; have hD9 : D 9 = true := hT 1 9; clear hT hF
      exact Reg.Gives.value (v := V 9) (w' := wi) (by go_simp) ⟨fun x h => (by cases h), by show ApT 3 49 1 1 nv lv w.heap.size (.slice V0 nn vc) (.slice X0 xn xc) (ps.take k) (ps.take k) s we (D 3) (V 3) (D 4) (V 4) (D 8) (V 8) (D 9) (V 9) (wi) ∧ ((D 10) = true → (V 10) = (V 4) ∧ (D 4) = true) ∧ ((true) = true → (V 9) = (V 9) ∧ (D 9) = true); exact ⟨hI.1, hI.2.1, fun _ => ⟨rfl, hD9⟩⟩⟩
    ·intro V wf hk hI
     simp only [Reg.putsO, List.foldl_cons, List.foldl_nil, Act.put, List.setIfInBounds_toArray, List.set_cons_succ, List.set_cons_zero]
     replace hI : ApT 3 49 1 1 nv lv w.heap.size (.slice V0 nn vc) (.slice X0 xn xc) (ps.take k) (ps.take k) s we true (V 3) true (V 4) true (V 8) true (V 9) (wf) ∧ (true = true → (V 10) = (V 4) ∧ true = true) ∧ (true = true → (V 11) = (V 9) ∧ true = true) := hI
     clear hk
     obtain ⟨hA, h10, h11⟩ := hI
     rw [(h10 rfl).1, (h11 rfl).1]
     have ha := hA.ra
     have hb := hA.rb
     simp only [cond_true] at ha hb
     obtain ⟨V1, c1, e1⟩ := row_slice ha
     obtain ⟨X1, c2, e2⟩ := row_slice hb
     have hfar : ∀ j, (V 4).ownBlock = some j → (V 9).ownBlock ≠ some j := hA.far
     rw [e1] at ha hfar
     rw [e2] at hb hfar
     rw [e1, e2]
     have HB5 := Lib.hid (HB3.out.trans (hA.low.below HB3.out.size fun j e => by
      rcases e with e | e
      ·exact (HV3.out.1.1.lt e).1
      ·exact (HV3.out.1.2.lt e).1))
     have HV5 : Hid (OwnG 3 1 nv w.heap.size wf (.slice V1 (ps.take k ++ [s]).length c1) (ps.take (k + 1)) ∧ OwnG 49 1 lv w.heap.size wf (.slice X1 (ps.take k ++ [s]).length c2) (ps.take (k + 1)) ∧ ∀ j, blk V1 = some j → blk X1 ≠ some j) := Lib.hid (by rw [HTM.out]; exact ⟨ha, hb, fun j q1 q2 => hfar j (by rw [own_blk]; exact q1) (by rw [own_blk]; exact q2)⟩)
     have HOK2 : Hid (okItems (ps.take (k + 1)) = true) := Lib.hid (by rw [ok_items HTM.out, HOK.out, HRE.out]; rfl)
     obtain ⟨r, hr⟩ : ∃ r, (ps.take k ++ [s]).length = r := ⟨_, rfl⟩
     rw [hr] at HV5 ⊢
     clear hA h10 h11 ha hb e1 e2 hfar hr HST HPB HV3 HB3
     go_wp2_with fail
     go_roundw
     case rel => exact ⟨k + 1, V1, r, c1, X1, r, c2, by omega, by go_num, rfl, rfl, HOK2, HV5, HB5⟩
     case measure => simp [intOf]; omega
  ·obtain rfl : k = n := by omega
   have htk : ps.take k = ps := List.take_of_length_le (Nat.le_of_eq HN.out)
   have hv := HV.out
   have hok := HOK.out
   rw [htk] at hv hok
   obtain ⟨k1, k2⟩ := nums_of hv.1
   have hps := (HH.out.later HB.out).2
   obtain ⟨k3, k4⟩ := own_lists hv.2.1 fun s hs => ⟨(hps s hs).1, (hps s hs).2.1⟩
   have hrn := rightNodes_any V0 (ps.map (·.node)) vc wr k2 (by rw [List.length_map, HN.out]; omega)
   rw [← k1] at hrn
   have HRN := Lib.hid hrn
   obtain ⟨rn, hrne⟩ : ∃ b, rightNodes (ps.map (·.node)) = b := ⟨_, rfl⟩
   rw [hrne] at HRN
   have HRE := Lib.hid hrne
   have HOKP := Lib.hid hok
   have HLS := Lib.hid (And.intro k3 k4)
   have hall : allOf (ps.map trip) = (ps.map (·.its)).flatten := by unfold allOf; rw [List.map_map]; rfl
   have HALL := Lib.hid hall
   have HLA : Hid ((allOf (ps.map trip)).length ≤ 100000) := Lib.hid (by rw [hall]; have := its_len ps fun s hs => (hps s hs).2.2; rw [HN.out] at this; omega)
   have HPL : Hid ((ps.map trip).length ≤ 100) := Lib.hid (by rw [List.length_map, HN.out]; omega)
   clear htk hv hok k1 k2 k3 k4 hps hrn hrne hall HV
   go_wp2_with fail
   refine HRN.out.mono ?_
   rintro e w2 ⟨rfl, rfl⟩
   have HB2 := HB
   have HL2 := Lib.hid HLS.out.2
   clear HRN
   cases rn with
   | false =>
    have HF : Hid (ans = false) := Lib.hid (by rw [← HANS.out]; unfold okParts; rw [HRE.out, Bool.and_false, Bool.false_and])
    go_wp2_with fail
    go_returns
    exact ⟨ret_val (congrArg Value.bool HF.out.symm), HB2.out⟩
   | true =>
    have hj := join_any X0 (ps.map trip) xc wr HL2.out HPL.out HLA.out
    rw [← HLS.out.1] at hj
    have HJ := Lib.hid hj
    clear hj
    go_wp2_with fail
    refine HJ.out.mono ?_
    rintro e w3 ⟨⟨v, rfl, hjo⟩, hb3⟩
    obtain ⟨Lj, A9, c9, hL, rfl, _⟩ := hjo
    have HLJ := Lib.hid hL
    have HB3 := Lib.hid (HB2.out.trans (hb3.mono HB2.out.size))
    have hc := concat_any X0 (ps.map trip) xc w3 (HL2.out.later hb3) HPL.out HLA.out
    rw [← HLS.out.1] at hc
    have HC := Lib.hid hc
    obtain ⟨lj, hlj⟩ : ∃ q, Lj.length = q := ⟨_, rfl⟩
    have HLJL := Lib.hid hlj
    rw [hlj]
    clear hL hb3 hc hlj HJ
    go_wp2_with fail
    refine HC.out.mono ?_
    rintro e w4 ⟨v, rfl, hrow, hb4⟩
    have HB4 := Lib.hid (HB3.out.trans (hb4.mono HB3.out.size))
    obtain ⟨A8, c8, rfl⟩ := row_slice hrow
    obtain ⟨la, hla⟩ : ∃ q, (allOf (ps.map trip)).length = q := ⟨_, rfl⟩
    have HLAL := Lib.hid hla
    rw [hla]
    have e1 : ((lj : Int) == (la : Int)) = ans := by
     rw [← HANS.out]
     unfold okParts
     rw [HOKP.out, HRE.out, Bool.true_and, Bool.true_and]
     have h5 := join_len HLJ.out
     rw [HLJL.out, hla, HALL.out] at h5
     unfold cellsOf
     by_cases hq : lj = la
     ·rw [decide_eq_true (h5.1 hq), hq]; simp
     ·rw [decide_eq_false fun e => hq (h5.2 e)]; exact beq_eq_false_iff_ne.2 (by omega)
    clear hrow hb4 hla HC
    go_wp2_with fail
    go_returns
    exact ⟨rfl, HB4.out⟩
end Go.Proofs.Ytjeogeablbkhgaa.Vot
