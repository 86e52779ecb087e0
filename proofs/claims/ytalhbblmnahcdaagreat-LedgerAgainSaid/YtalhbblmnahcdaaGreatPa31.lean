/-
  Layer 8: a decision: its walk.
  Conditions: none.
-/
import Derived.Test.YtalhbblmnahcdaaGreatPa30
namespace Go.Proofs.YtalhbblmnahcdaaGreat.Led
set_option maxRecDepth 100000
open Go.RowKit Go.Deep Go.Proofs.YtalhbblmnahcdaaGreat.Mem Go.Proofs.YtalhbblmnahcdaaGreat.Item Go.Proofs.YtalhbblmnahcdaaGreat.Rec
theorem writeOne_keeps (s : St) (x : It) : (writeOne s x).places.length = s.places.length ∧ (writeOne s x).prep = s.prep ∧ (writeOne s x).dec = s.dec ∧ (writeOne s x).com = s.com ∧ (writeOne s x).node = s.node ∧ (writeOne s x).nodes = s.nodes ∧ (writeOne s x).cells = s.cells ∧ (writeOne s x).epoch = s.epoch := by
 unfold writeOne setPl
 split
 ·exact ⟨by simp, rfl, rfl, rfl, rfl, rfl, rfl, rfl⟩
 ·exact ⟨rfl, rfl, rfl, rfl, rfl, rfl, rfl, rfl⟩
theorem writeL_keeps : ∀ (l : List It) (s : St), (writeL s l).places.length = s.places.length ∧ (writeL s l).prep = s.prep ∧ (writeL s l).dec = s.dec ∧ (writeL s l).com = s.com ∧ (writeL s l).node = s.node ∧ (writeL s l).nodes = s.nodes ∧ (writeL s l).cells = s.cells ∧ (writeL s l).epoch = s.epoch
 | [], _ => ⟨rfl, rfl, rfl, rfl, rfl, rfl, rfl, rfl⟩
 | x :: l, s => by
  obtain ⟨a1, a2, a3, a4, a5, a6, a7, a8⟩ := writeOne_keeps s x
  obtain ⟨b1, b2, b3, b4, b5, b6, b7, b8⟩ := writeL_keeps l (writeOne s x)
  exact ⟨b1.trans a1, b2.trans a2, b3.trans a3, b4.trans a4, b5.trans a5, b6.trans a6, b7.trans a7, b8.trans a8⟩
theorem Small.written {s : St} (h : Small s) (l : List It) : Small (writeL s l) := by
 obtain ⟨b1, b2, b3, b4, _⟩ := writeL_keeps l s
 exact ⟨by rw [b1]; exact h.places, by rw [b2]; exact h.prep, by rw [b3]; exact h.dec, by rw [b4]; exact h.com, by rw [b2]; exact h.pin, by rw [b4]; exact h.cin⟩
theorem cut_sub {α : Type} {l : List α} {k : Nat} {x : α} (h : x ∈ cut l k) : x ∈ l := by
 unfold cut at h
 rcases List.mem_append.1 h with h | h
 ·exact List.mem_of_mem_take h
 ·exact List.mem_of_mem_drop h
theorem cut_le {α : Type} (l : List α) (k : Nat) : (cut l k).length ≤ l.length := by unfold cut; simp; omega
theorem Small.cut {s : St} (h : Small s) (k : Nat) : Small { s with prep := cut s.prep k } := ⟨h.places, Nat.le_trans (cut_le _ _) h.prep, h.dec, h.com, fun p hp => h.pin p (cut_sub hp), h.cin⟩
def prItems (s : St) (k : Nat) : List It := ((s.prep[k]?).map Pr.items).getD []
def fDecide (s : St) (r : Rc) : St × Int := if at_prep s r.tid < 0 then fRefuse s r else (conc { (if r.yes = true then writeL s (prItems s (at_prep s r.tid).toNat) else s) with prep := cut (if r.yes = true then writeL s (prItems s (at_prep s r.tid).toNat) else s).prep (at_prep s r.tid).toNat } r, 0)
def ledM_de1 (s0 : St) (y : Sy) (r : Rc) (b : Nat) (g : Nat) : Nat → Value → World → Prop
 | 0, v, _ => v = .pointer (some ⟨b, 0, none⟩)
 | 1, v, _ => v = .pointer (some ⟨b, 0, none⟩)
 | 2, v, _ => v = s0.val y
 | 3, v, _ => v = .pointer (some ⟨g, 1, none⟩)
 | 4, v, _ => v = .agg #[.int .i64 r.tid.node, .int .i64 r.tid.epoch, .int .i64 r.tid.seq]
 | 5, v, _ => v = .int .i64 (at_prep s0 r.tid)
 | 6, v, _ => v = .int .i64 (at_prep s0 r.tid)
 | _, _, _ => True
theorem ledM_de1_later {s0 : St} {y : Sy} {r : Rc} {b : Nat} {g : Nat} {j : Nat} {v : Value} {w w' : World} (_hb : Below w.heap.size w w') (h : ledM_de1 s0 y r b g j v w) : ledM_de1 s0 y r b g j v w' := by
 match j, h with
 | 0, h | 1, h | 2, h | 3, h | 4, h | 5, h | 6, h => exact h
 | _ + 7, _ => exact trivial
set_option maxHeartbeats 4000000 in
theorem decide_any (s0 : St) (y : Sy) (r : Rc) (z : Lay) (base b : Nat) (w : World) (ho : Own base w b s0 y) (hh : Fr (fun j => turf b y j) w r.items r.nodes z) (hs : Small s0) (hr : r.items.length ≤ 1000 ∧ r.nodes.length ≤ 1000) :
  Calls Tryz.prog 68 #[.pointer (some ⟨b, 0, none⟩), r.val z] w fun e w' => e = .returned (.int .i64 (fDecide s0 r).2) ∧ Step base b s0 y w (fDecide s0 r).1 w' := by
 obtain ⟨wb, hwb⟩ : ∃ v, v = w.alloc (.cells #[.int .i64 r.kind, .int .i64 r.tid.node, .int .i64 r.tid.epoch, .int .i64 r.tid.seq, .slice z.A r.items.length z.c, .slice z.B r.nodes.length z.d, .int .i64 r.node, .int .i64 r.count, .int .i64 r.num, .int .i64 r.cell, .int .i64 r.status, .int .i64 r.hop, .int .i64 r.version, .int .i64 r.value, .bool r.yes] 51) := ⟨_, rfl⟩
 have hb : Below w.heap.size w wb := by rw [hwb]; exact below_alloc _ _
 have HOwb := Lib.hid (ho.later hb)
 have HRwb : Hid (Cells wb w.heap.size 51 (r.vals z)) := Lib.hid (by rw [hwb]; exact cells_new _ _ _ _ rfl)
 have HHwb := Lib.hid (hh.later hb)
 have HBwb := Lib.hid hb
 have HSM := Lib.hid hs
 have HRS := Lib.hid hr
 have HTL : Hid (∀ k, turf b y k → k < w.heap.size) := Lib.hid fun k e => (ho.turf_lt e).2
 have hlo : base ≤ w.heap.size := Nat.le_trans ho.low (Nat.le_of_lt ho.cel.lt)
 have HLO := Lib.hid hlo
 clear hlo
 obtain ⟨F, hF⟩ : ∃ F, fDecide s0 r = F := ⟨_, rfl⟩
 have HF := Lib.hid hF.symm
 rw [hF]
 unfold Rc.val
 clear ho hh hs hr hb hF
 go_enter Tryz.func68, Tryz.ntmps68
 go_wp2_with fail
 rw [← hwb]
 clear hwb
 refine Reg.region_heavy (by kernel_rfl) 6 [6] (ledM_de1 s0 y r b w.heap.size) (fun a => Below wb.heap.size wb a) (fun a => Below wb.heap.size wb a) (fun V => [(some 6, V 0), (some 7, V 1), (some 8, V 2), (some 9, V 3), (some 10, V 4), (some 11, V 5), (some 5, V 6)]) (by kernel_rfl) (by kernel_rfl) (by kernel_rfl) (fun V => rfl) ?_ ?_ ?_
 ·exact (Below.refl _ _).drew
 ·intro i o ho
  have hi : i < 7 := (Array.getElem?_eq_some_iff.1 ho).1
  rcases i with _ | _ | _ | _ | _ | _ | _ | i
  rotate_right
  ·omega
  all_goals obtain rfl := Option.some.inj ho
  all_goals intro ρ wi hE hI hs hd
  all_goals try dsimp only at hI
  ·have e0 : ρ (.tmp 0) = .pointer (some ⟨b, 0, none⟩) := hs 0; exact Reg.gw hI
  ·obtain ⟨_, rfl, e6⟩ := hd 0 6; exact Reg.gw hI
  ·obtain ⟨_, rfl, e7⟩ := hd 1 7
   exact Reg.Gives.value (v := s0.val y) (w' := wi) (exec_load _ _ rfl _ _ (by assumption) (state_load (HOwb.out.later hI))) (Reg.OwedH.same hI rfl)
  ·have e3 : ρ (.tmp 3) = .pointer (some ⟨w.heap.size, 0, none⟩) := hs 3; exact Reg.gw hI
  ·obtain ⟨_, rfl, e9⟩ := hd 3 9; have x0 := (HRwb.out.later hI).cell (j := 1) rfl; have x1 := (HRwb.out.later hI).cell (j := 2) rfl; have x2 := (HRwb.out.later hI).cell (j := 3) rfl; exact Reg.gw hI
  ·obtain ⟨_, rfl, e8⟩ := hd 2 8; obtain ⟨_, rfl, e10⟩ := hd 4 10; have hf := hE.func
   refine Reg.Gives.call (f := 21) (args := #[s0.val y, .agg #[.int .i64 r.tid.node, .int .i64 r.tid.epoch, .int .i64 r.tid.seq]]) (w' := wi) (by go_simp) ?_
   refine (Find_prep s0 y r.tid wi (HOwb.out.later hI).sees (Nat.le_trans HSM.out.prep (by decide))).mono ?_
   rintro e w'' ⟨rfl, hbb⟩
   exact ⟨_, rfl, ⟨rfl, hI.trans (hbb.mono hI.size), fun j u _ _ h => ledM_de1_later hbb h⟩⟩
  ·obtain ⟨_, rfl, e11⟩ := hd 5 11; exact Reg.gw hI
 ·intro V wc hV hI
  have hV6 : V 6 = .int .i64 (at_prep s0 r.tid) := hV 6 (by decide) rfl
  simp only [Reg.putsO, List.foldl_cons, List.foldl_nil, Act.put, List.setIfInBounds_toArray, List.set_cons_succ, List.set_cons_zero, hV6]
  replace hI : (fun a => Below wb.heap.size wb a) wc := hI
  clear hV hV6
  have HOwc := Lib.hid (HOwb.out.later hI)
  have HRwc := Lib.hid (HRwb.out.later hI)
  have HHwc := Lib.hid (HHwb.out.later hI)
  have HBwc := Lib.hid (HBwb.out.trans (hI.mono HBwb.out.size))
  clear hI
  have HBS : Hid (base ≤ wc.heap.size) := Lib.hid (Nat.le_trans HLO.out HBwc.out.size)
  by_cases hneg : at_prep s0 r.tid < 0
  ·have HFX : Hid (F = fRefuse s0 r) := Lib.hid (by rw [HF.out]; exact if_pos hneg)
   have hx := HRwc.out
   unfold Rc.vals at hx
   have x0 := hx.cell (j := 0) rfl
   have x1 := hx.cell (j := 1) rfl
   have x2 := hx.cell (j := 2) rfl
   have x3 := hx.cell (j := 3) rfl
   have x4 := hx.cell (j := 4) rfl
   have x5 := hx.cell (j := 5) rfl
   have x6 := hx.cell (j := 6) rfl
   have x7 := hx.cell (j := 7) rfl
   have x8 := hx.cell (j := 8) rfl
   have x9 := hx.cell (j := 9) rfl
   have x10 := hx.cell (j := 10) rfl
   have x11 := hx.cell (j := 11) rfl
   have x12 := hx.cell (j := 12) rfl
   have x13 := hx.cell (j := 13) rfl
   have x14 := hx.cell (j := 14) rfl
   clear hx
   go_wp2_with fail
   clear x0 x1 x2 x3 x4 x5 x6 x7 x8 x9 x10 x11 x12 x13 x14
   refine (refuse_any s0 y r z base b wc HOwc.out HHwc.out.two HSM.out HRS.out).mono ?_
   rintro e w9 ⟨rfl, hst⟩
   have HN := Lib.hid hst
   clear hst
   go_wp2_with fail
   go_returns
   exact ⟨ret_int (by rw [HFX.out]), by rw [HFX.out]; exact Step.before HBwc.out HN.out⟩
  ·obtain ⟨k, hk, hkl, ht⟩ := at_prep_some hneg
   clear ht
   have HNEG := Lib.hid hneg
   obtain ⟨qb, hQ, hcap, hmax, hk', hcell⟩ := HOwc.out.prepAt hkl
   have HQ0 := Lib.hid (And.intro hQ (And.intro hkl (And.intro hcap HSM.out.prep)))
   have HK := Lib.hid hk
   have HMAX := Lib.hid hmax
   simp only [hk]
   clear hk hneg
   have hx := HRwc.out
   unfold Rc.vals at hx
   have x0 := hx.cell (j := 0) rfl
   have x1 := hx.cell (j := 1) rfl
   have x2 := hx.cell (j := 2) rfl
   have x3 := hx.cell (j := 3) rfl
   have x4 := hx.cell (j := 4) rfl
   have x5 := hx.cell (j := 5) rfl
   have x6 := hx.cell (j := 6) rfl
   have x7 := hx.cell (j := 7) rfl
   have x8 := hx.cell (j := 8) rfl
   have x9 := hx.cell (j := 9) rfl
   have x10 := hx.cell (j := 10) rfl
   have x11 := hx.cell (j := 11) rfl
   have x12 := hx.cell (j := 12) rfl
   have x13 := hx.cell (j := 13) rfl
   have x14 := hx.cell (j := 14) rfl
   clear hx
   cases hy : r.yes with
   | true =>
    have HY := Lib.hid hy
    rw [hy] at x14
    have hq := HOwc.out.cel
    unfold St.vals at hq
    have q5 := hq.cell (j := 5) rfl
    rw [hQ] at q5
    obtain ⟨items, hit⟩ : ∃ l, s0.prep[k].items = l := ⟨_, rfl⟩
    obtain ⟨lay, hlay⟩ : ∃ l, y.ps[k] = l := ⟨_, rfl⟩
    have HFI := Lib.hid (HOwc.out.lists.pin k hkl hk')
    have HIL : Hid (items.length ≤ 100000) := Lib.hid (by rw [← hit]; exact (HSM.out.pin _ (List.getElem_mem hkl)).1)
    have HPI : Hid (prItems s0 k = items) := Lib.hid (by unfold prItems; rw [List.getElem?_eq_getElem hkl]; exact hit)
    rw [hit, hlay] at hcell HFI
    clear hq hit hlay hy hk' hQ
    go_wp2_with fail
    clear q5 x0 x1 x2 x3 x4 x5 x6 x7 x8 x9 x10 x11 x12 x13 x14 hcell
    refine (write_any s0 y base b lay.A items lay.c wc HOwc.out (fun w' ho => (HFI.out w' (ho.mono fun _ _ e => Or.inr (Or.inl e))).1) HIL.out).mono ?_
    rintro e wd ⟨rfl, hO, hN⟩
    have HOwd0 := Lib.hid hO
    obtain ⟨s, hs⟩ : ∃ s, writeL s0 items = s := ⟨_, rfl⟩
    have hkp := writeL_keeps items s0
    have hsm := HSM.out.written items
    rw [hs] at hO hkp hsm
    have HOwd := Lib.hid hO
    have HSMS := Lib.hid hsm
    have hN' : Only (turf b y) wc wd := hN.mono fun _ _ e => Or.inr (Or.inl e)
    have HNwd := Lib.hid hN'
    have HHwd := Lib.hid (HHwc.out.next hN' fun _ e => Or.inl e)
    have HRwd := Lib.hid (cells_only HRwc.out hN' fun e => by have := HTL.out _ e; omega)
    have HQ : Hid (y.Q = some ⟨qb, 0, none⟩ ∧ k < s.prep.length ∧ s.prep.length ≤ y.q ∧ s.prep.length ≤ 100000) := Lib.hid (by rw [hkp.2.1]; exact HQ0.out)
    have HNN : Hid (s.prep.length ≤ 100000 ∧ y.q ≤ 9223372036854775807 ∧ k ≤ 100000) := Lib.hid ⟨HQ.out.2.2.2, by have := HMAX.out; unfold maxLen at this; omega, by have := HQ.out.2.1; have := HQ.out.2.2.2; omega⟩
    have HBS : Hid (base ≤ wd.heap.size) := Lib.hid (Nat.le_trans HBS.out hN'.size)
    have HFX : Hid (F = (conc { s with prep := cut s.prep k } r, 0)) := Lib.hid (by
     rw [HF.out]
     unfold fDecide
     rw [if_neg (by have := HNEG.out; omega), HK.out, Int.toNat_natCast, HPI.out, if_pos HY.out, hs])
    clear hO hN hN' hs hkp hsm HOwd0 hcap hmax HFI hkl
    by_cases hcq : y.q = k + 1
    ·have HCC := Lib.hid hcq
     clear hcq
     have HI : Hid (∀ V : Nat → Value, cond false (Step base b s y wd { s with prep := cut s.prep k } wd.drew) (cond false (InsQ base b y (cut s.prep k) (cut y.ps k) wd (V 15) wd.drew) (Below wd.heap.size wd wd.drew ∧ (false = true → ∃ g2, (V 14) = .slice (some ⟨g2, 0, none⟩) 2 2 ∧ Cells wd.drew g2 28 [.slice (some ⟨qb, 0, none⟩) k y.q, .slice (some ⟨qb, 0, none⟩) (s.prep.length - (k + 1)) (y.q - (k + 1))])))) := Lib.hid fun V => ⟨(Below.refl _ _).drew, fun e => (by cases e)⟩
     go_upto_region 6 with (fail)
     refine Reg.region_inv (by kernel_rfl) (fun i => ([some (.pointer (some ⟨b, 0, none⟩)), some (.pointer (some ⟨b, 0, none⟩)), some (.pointer (some ⟨b, 0, none⟩)), some (.pointer (some ⟨b, 5, none⟩)), some (.slice (some ⟨qb, 0, none⟩) s.prep.length y.q), some (.int .i64 (k : Int)), some (.slice (some ⟨qb, 0, none⟩) k y.q), some (.pointer (some ⟨b, 0, none⟩)), some (.pointer (some ⟨b, 0, none⟩)), some (.pointer (some ⟨b, 5, none⟩)), some (.slice (some ⟨qb, 0, none⟩) s.prep.length y.q), some (.int .i64 (k : Int)), some (.int .i64 ((k : Int) + 1)), some (.slice (some ⟨qb, 0, none⟩) (s.prep.length - (k + 1)) (y.q - (k + 1))), none, none, some (.pointer (some ⟨b, 0, none⟩)), some (.pointer (some ⟨b, 5, none⟩)), none] : List (Option Value)).getD i none) (fun D V W => cond (D 18) (Step base b s y wd { s with prep := cut s.prep k } W) (cond (D 15) (InsQ base b y (cut s.prep k) (cut y.ps k) wd (V 15) W) (Below wd.heap.size wd W ∧ ((D 14) = true → ∃ g2, (V 14) = .slice (some ⟨g2, 0, none⟩) 2 2 ∧ Cells W g2 28 [.slice (some ⟨qb, 0, none⟩) k y.q, .slice (some ⟨qb, 0, none⟩) (s.prep.length - (k + 1)) (y.q - (k + 1))])))) (fun V => [(some 29, V 0), (some 30, V 1), (some 31, V 2), (some 32, V 3), (some 33, V 4), (some 34, V 5), (some 35, V 6), (some 36, V 7), (some 37, V 8), (some 38, V 9), (some 39, V 10), (some 40, V 11), (some 41, V 12), (some 42, V 13), (some 43, V 14), (some 44, V 15), (some 45, V 16), (some 46, V 17), (none, V 18)]) (by kernel_rfl) (by kernel_rfl) (fun V => rfl) ?_ ?_ ?_
     ·intro V
      exact HI.out V
     ·intro i o ho
      have hi : i < 19 := (Array.getElem?_eq_some_iff.1 ho).1
      rcases i with _ | _ | _ | _ | _ | _ | _ | _ | _ | _ | _ | _ | _ | _ | _ | _ | _ | _ | _ | i
      rotate_right
      ·omega
      all_goals obtain rfl := Option.some.inj ho
      all_goals intro D V ρ wi hE hI hDi hT hF hs hd hk
      ·have e0 : ρ (.tmp 0) = .pointer (some ⟨b, 0, none⟩) := hs 0; clear hT hF hk
       exact Reg.Gives.value (v := .pointer (some ⟨b, 0, none⟩)) (w' := wi) (by go_simp) ⟨fun x h => Option.some.inj h, hI⟩
      ·have e0 : ρ (.tmp 0) = .pointer (some ⟨b, 0, none⟩) := hs 0; clear hT hF hk
       exact Reg.Gives.value (v := .pointer (some ⟨b, 0, none⟩)) (w' := wi) (by go_simp) ⟨fun x h => Option.some.inj h, hI⟩
      ·have e30 : ρ (.tmp 30) = .pointer (some ⟨b, 0, none⟩) := (hd 1 30).trans (hk 1 _ rfl); clear hT hF hk
       exact Reg.Gives.value (v := .pointer (some ⟨b, 0, none⟩)) (w' := wi) (by go_simp) ⟨fun x h => Option.some.inj h, hI⟩
      ·have e31 : ρ (.tmp 31) = .pointer (some ⟨b, 0, none⟩) := (hd 2 31).trans (hk 2 _ rfl); clear hT hF hk
       exact Reg.Gives.value (v := .pointer (some ⟨b, 5, none⟩)) (w' := wi) (by go_simp) ⟨fun x h => Option.some.inj h, hI⟩
      ·have e32 : ρ (.tmp 32) = .pointer (some ⟨b, 5, none⟩) := (hd 3 32).trans (hk 3 _ rfl); have hD15 : D 15 = false := hF 3 15; have hD18 : D 18 = false := hF 1 18; clear hT hF; have hI0 := hI
       simp only [hD15, hD18, cond_false] at hI
       have x0 := (HOwd.out.later hI.1).cel.cell (j := 5) rfl
       rw [HQ.out.1] at x0
       exact Reg.Gives.value (v := .slice (some ⟨qb, 0, none⟩) s.prep.length y.q) (w' := wi) (by go_simp) ⟨fun x h => Option.some.inj h, hI0⟩
      ·have e5 : ρ (.tmp 5) = .int .i64 (k : Int) := hs 5; clear hT hF hk
       exact Reg.Gives.value (v := .int .i64 (k : Int)) (w' := wi) (by go_simp) ⟨fun x h => Option.some.inj h, hI⟩
      ·have e33 : ρ (.tmp 33) = .slice (some ⟨qb, 0, none⟩) s.prep.length y.q := (hd 4 33).trans (hk 4 _ rfl); have e34 : ρ (.tmp 34) = .int .i64 (k : Int) := (hd 5 34).trans (hk 5 _ rfl); clear hT hF hk; have h1 := HQ.out.2.1; have h2 := HQ.out.2.2.1
       have h9 : k ≤ y.q := by omega
       have h8 := HNN.out.2.1
       exact Reg.Gives.value (v := .slice (some ⟨qb, 0, none⟩) k y.q) (w' := wi) (by go_simp) ⟨fun x h => Option.some.inj h, hI⟩
      ·have e0 : ρ (.tmp 0) = .pointer (some ⟨b, 0, none⟩) := hs 0; clear hT hF hk
       exact Reg.Gives.value (v := .pointer (some ⟨b, 0, none⟩)) (w' := wi) (by go_simp) ⟨fun x h => Option.some.inj h, hI⟩
      ·have e36 : ρ (.tmp 36) = .pointer (some ⟨b, 0, none⟩) := (hd 7 36).trans (hk 7 _ rfl); clear hT hF hk
       exact Reg.Gives.value (v := .pointer (some ⟨b, 0, none⟩)) (w' := wi) (by go_simp) ⟨fun x h => Option.some.inj h, hI⟩
      ·have e37 : ρ (.tmp 37) = .pointer (some ⟨b, 0, none⟩) := (hd 8 37).trans (hk 8 _ rfl); clear hT hF hk
       exact Reg.Gives.value (v := .pointer (some ⟨b, 5, none⟩)) (w' := wi) (by go_simp) ⟨fun x h => Option.some.inj h, hI⟩
      ·have e38 : ρ (.tmp 38) = .pointer (some ⟨b, 5, none⟩) := (hd 9 38).trans (hk 9 _ rfl); have hD15 : D 15 = false := hF 3 15; have hD18 : D 18 = false := hF 1 18; clear hT hF; have hI0 := hI
       simp only [hD15, hD18, cond_false] at hI
       have x0 := (HOwd.out.later hI.1).cel.cell (j := 5) rfl
       rw [HQ.out.1] at x0
       exact Reg.Gives.value (v := .slice (some ⟨qb, 0, none⟩) s.prep.length y.q) (w' := wi) (by go_simp) ⟨fun x h => Option.some.inj h, hI0⟩
      ·have e5 : ρ (.tmp 5) = .int .i64 (k : Int) := hs 5; clear hT hF hk
       exact Reg.Gives.value (v := .int .i64 (k : Int)) (w' := wi) (by go_simp) ⟨fun x h => Option.some.inj h, hI⟩
      ·have e40 : ρ (.tmp 40) = .int .i64 (k : Int) := (hd 11 40).trans (hk 11 _ rfl); have hc := hE.const; clear hT hF hk; have h1 := HQ.out.2.1; have h2 := HQ.out.2.2.1; have h3 := HQ.out.2.2.2
       have h9 : IntKind.i64.wrap ((k : Int) + 1) = (k : Int) + 1 := by rw [IntKind.wrap_i64]; omega
       exact Reg.Gives.value (v := .int .i64 ((k : Int) + 1)) (w' := wi) (by go_simp) ⟨fun x h => Option.some.inj h, hI⟩
      ·have e39 : ρ (.tmp 39) = .slice (some ⟨qb, 0, none⟩) s.prep.length y.q := (hd 10 39).trans (hk 10 _ rfl); have e41 : ρ (.tmp 41) = .int .i64 ((k : Int) + 1) := (hd 12 41).trans (hk 12 _ rfl); clear hT hF hk; have h1 := HQ.out.2.1; have h2 := HQ.out.2.2.1; have h4 := HCC.out; have h5 := HNN.out.1; have h6 := HNN.out.2.1; have h7 := HNN.out.2.2
       have h8 : (0 : Int) ≤ (k : Int) + 1 := by omega
       have h9 : (k : Int) + 1 ≤ (s.prep.length : Int) := by omega
       have h10 : (k : Int) < (s.prep.length : Int) := by omega
       have h11 : ((k : Int) + 1).toNat = k + 1 := by omega
       exact Reg.Gives.value (v := .slice (some ⟨qb, 0, none⟩) (s.prep.length - (k + 1)) (y.q - (k + 1))) (w' := wi) (by go_simp) ⟨fun x h => Option.some.inj h, hI⟩
      ·have e35 : ρ (.tmp 35) = .slice (some ⟨qb, 0, none⟩) k y.q := (hd 6 35).trans (hk 6 _ rfl); have e42 : ρ (.tmp 42) = .slice (some ⟨qb, 0, none⟩) (s.prep.length - (k + 1)) (y.q - (k + 1)) := (hd 13 42).trans (hk 13 _ rfl); have hD14 : D 14 = false := hDi; have hD15 : D 15 = false := hF 1 15; have hD18 : D 18 = false := hF 1 18; clear hT hF
       simp only [hD14, hD15, hD18, cond_false] at hI
       have hal := below_alloc wi (.cells #[.slice (some ⟨qb, 0, none⟩) k y.q, .slice (some ⟨qb, 0, none⟩) (s.prep.length - (k + 1)) (y.q - (k + 1))] 28)
       exact Reg.Gives.value (v := .slice (some ⟨wi.heap.size, 0, none⟩) 2 2) (w' := wi.alloc (.cells #[.slice (some ⟨qb, 0, none⟩) k y.q, .slice (some ⟨qb, 0, none⟩) (s.prep.length - (k + 1)) (y.q - (k + 1))] 28)) (by go_simp) ⟨fun x h => (by cases h), by show cond (D 18) (Step base b s y wd { s with prep := cut s.prep k } (wi.alloc (.cells #[.slice (some ⟨qb, 0, none⟩) k y.q, .slice (some ⟨qb, 0, none⟩) (s.prep.length - (k + 1)) (y.q - (k + 1))] 28))) (cond (D 15) (InsQ base b y (cut s.prep k) (cut y.ps k) wd (V 15) (wi.alloc (.cells #[.slice (some ⟨qb, 0, none⟩) k y.q, .slice (some ⟨qb, 0, none⟩) (s.prep.length - (k + 1)) (y.q - (k + 1))] 28))) (Below wd.heap.size wd (wi.alloc (.cells #[.slice (some ⟨qb, 0, none⟩) k y.q, .slice (some ⟨qb, 0, none⟩) (s.prep.length - (k + 1)) (y.q - (k + 1))] 28)) ∧ (true = true → ∃ g2, (Value.slice (some ⟨wi.heap.size, 0, none⟩) 2 2) = .slice (some ⟨g2, 0, none⟩) 2 2 ∧ Cells (wi.alloc (.cells #[.slice (some ⟨qb, 0, none⟩) k y.q, .slice (some ⟨qb, 0, none⟩) (s.prep.length - (k + 1)) (y.q - (k + 1))] 28)) g2 28 [.slice (some ⟨qb, 0, none⟩) k y.q, .slice (some ⟨qb, 0, none⟩) (s.prep.length - (k + 1)) (y.q - (k + 1))]))); rw [hD15, hD18]; exact ⟨hI.1.trans (hal.mono hI.1.size), fun _ => ⟨_, rfl, cells_new wi _ _ _ rfl⟩⟩⟩
      ·have e43 : ρ (.tmp 43) = V 14 := hd 14 43; have hf := hE.func; have hD14 : D 14 = true := hT 1 14; have hD15 : D 15 = false := hDi; have hD18 : D 18 = false := hF 1 18; clear hT hF
       simp only [hD14, hD15, hD18, cond_false] at hI
       obtain ⟨g2, hv2, hc2⟩ := hI.2 trivial; have e43b := e43.trans hv2; clear e43
       refine Reg.Gives.call (f := 104) (args := #[.slice (some ⟨g2, 0, none⟩) 2 2]) (w' := wi) (by go_simp) ?_
       refine (cut_call (k := k) (HOwd.out.later hI.1) HOwd.out hI.1 HBS.out HQ.out.2.2.2 HQ.out.2.1 HQ.out.1 (by first | exact Or.inl HCC.out | exact Or.inr rfl) HQ.out.2.2.1 hc2).mono ?_
       rintro e w'' ⟨v', rfl, hins⟩
       refine ⟨_, rfl, fun x h => (by cases h), ?_⟩
       show cond (D 18) (Step base b s y wd { s with prep := cut s.prep k } w'') (cond true (InsQ base b y (cut s.prep k) (cut y.ps k) wd v' w'') (Below wd.heap.size wd w'' ∧ ((D 14) = true → ∃ g2, (V 14) = .slice (some ⟨g2, 0, none⟩) 2 2 ∧ Cells w'' g2 28 [.slice (some ⟨qb, 0, none⟩) k y.q, .slice (some ⟨qb, 0, none⟩) (s.prep.length - (k + 1)) (y.q - (k + 1))])))
       rw [hD18]
       exact hins
      ·have e29 : ρ (.tmp 29) = .pointer (some ⟨b, 0, none⟩) := (hd 0 29).trans (hk 0 _ rfl); clear hT hF hk
       exact Reg.Gives.value (v := .pointer (some ⟨b, 0, none⟩)) (w' := wi) (by go_simp) ⟨fun x h => Option.some.inj h, hI⟩
      ·have e45 : ρ (.tmp 45) = .pointer (some ⟨b, 0, none⟩) := (hd 16 45).trans (hk 16 _ rfl); clear hT hF hk
       exact Reg.Gives.value (v := .pointer (some ⟨b, 5, none⟩)) (w' := wi) (by go_simp) ⟨fun x h => Option.some.inj h, hI⟩
      ·have e46 : ρ (.tmp 46) = .pointer (some ⟨b, 5, none⟩) := (hd 17 46).trans (hk 17 _ rfl); have e44 : ρ (.tmp 44) = V 15 := hd 15 44; have hD15 : D 15 = true := hT 1 15; have hD18 : D 18 = false := hDi; clear hT hF
       simp only [hD15, hD18, cond_true, cond_false] at hI
       obtain ⟨A9, n9, c9, f1, x0, x1⟩ := insQ_cells HOwd.out hI; have e44b := e44.trans f1; clear e44
       exact Reg.Gives.skip (w' := wi.setCell ⟨b, 5, none⟩ (V 15)) (by rw [f1]; clear f1; go_simp) ⟨fun x h => (by cases h), insQ_step HOwd.out hI⟩
     ·intro V wz hk hI
      simp only [Reg.putsO, List.foldl_cons, List.foldl_nil, Act.put, List.setIfInBounds_toArray, List.set_cons_succ, List.set_cons_zero]
      replace hI : cond true (Step base b s y wd { s with prep := cut s.prep k } wz) (cond true (InsQ base b y (cut s.prep k) (cut y.ps k) wd (V 15) wz) (Below wd.heap.size wd wz ∧ (true = true → ∃ g2, (V 14) = .slice (some ⟨g2, 0, none⟩) 2 2 ∧ Cells wz g2 28 [.slice (some ⟨qb, 0, none⟩) k y.q, .slice (some ⟨qb, 0, none⟩) (s.prep.length - (k + 1)) (y.q - (k + 1))]))) := hI
      clear hk
      obtain ⟨y2, hO2, hN2, hG2⟩ := hI
      have HR2 := Lib.hid (cells_only HRwd.out hN2 fun e => by have := HTL.out _ e; omega)
      have HN2 := Lib.hid (And.intro hO2 (And.intro hN2 hG2))
      have HH2 := Lib.hid ((HHwd.out.next hN2 hG2).two)
      clear hO2 hN2 hG2 HI
      have hx := HR2.out
      unfold Rc.vals at hx
      have x0 := hx.cell (j := 0) rfl
      have x1 := hx.cell (j := 1) rfl
      have x2 := hx.cell (j := 2) rfl
      have x3 := hx.cell (j := 3) rfl
      have x4 := hx.cell (j := 4) rfl
      have x5 := hx.cell (j := 5) rfl
      have x6 := hx.cell (j := 6) rfl
      have x7 := hx.cell (j := 7) rfl
      have x8 := hx.cell (j := 8) rfl
      have x9 := hx.cell (j := 9) rfl
      have x10 := hx.cell (j := 10) rfl
      have x11 := hx.cell (j := 11) rfl
      have x12 := hx.cell (j := 12) rfl
      have x13 := hx.cell (j := 13) rfl
      have x14 := hx.cell (j := 14) rfl
      clear hx
      go_wp2_with fail
      clear x0 x1 x2 x3 x4 x5 x6 x7 x8 x9 x10 x11 x12 x13 x14
      refine (conclude_any { s with prep := cut s.prep k } y2 r z base b wz HN2.out.1 HH2.out (HSMS.out.cut k) HRS.out).mono ?_
      rintro e w9 ⟨rfl, hst⟩
      have HN := Lib.hid hst
      clear hst
      go_wp2_with fail
      go_returns
      exact ⟨ret_int (by rw [HFX.out]), by rw [HFX.out]; exact Step.before HBwc.out (Step.next HOwd.out HNwd.out (fun _ e => Or.inl e) (Step.next HN2.out.1 HN2.out.2.1 HN2.out.2.2 HN.out))⟩
    ·have HCC := Lib.hid hcq
     clear hcq
     have HI : Hid (∀ V : Nat → Value, cond false (Step base b s y wd { s with prep := cut s.prep k } wd.drew) (cond false (InsQ base b y (cut s.prep k) (cut y.ps k) wd (V 15) wd.drew) (Below wd.heap.size wd wd.drew ∧ (false = true → ∃ g2, (V 14) = .slice (some ⟨g2, 0, none⟩) 2 2 ∧ Cells wd.drew g2 28 [.slice (some ⟨qb, 0, none⟩) k y.q, .slice (some ⟨qb, ((k + 1) * 5), none⟩) (s.prep.length - (k + 1)) (y.q - (k + 1))])))) := Lib.hid fun V => ⟨(Below.refl _ _).drew, fun e => (by cases e)⟩
     go_upto_region 6 with (fail)
     refine Reg.region_inv (by kernel_rfl) (fun i => ([some (.pointer (some ⟨b, 0, none⟩)), some (.pointer (some ⟨b, 0, none⟩)), some (.pointer (some ⟨b, 0, none⟩)), some (.pointer (some ⟨b, 5, none⟩)), some (.slice (some ⟨qb, 0, none⟩) s.prep.length y.q), some (.int .i64 (k : Int)), some (.slice (some ⟨qb, 0, none⟩) k y.q), some (.pointer (some ⟨b, 0, none⟩)), some (.pointer (some ⟨b, 0, none⟩)), some (.pointer (some ⟨b, 5, none⟩)), some (.slice (some ⟨qb, 0, none⟩) s.prep.length y.q), some (.int .i64 (k : Int)), some (.int .i64 ((k : Int) + 1)), some (.slice (some ⟨qb, ((k + 1) * 5), none⟩) (s.prep.length - (k + 1)) (y.q - (k + 1))), none, none, some (.pointer (some ⟨b, 0, none⟩)), some (.pointer (some ⟨b, 5, none⟩)), none] : List (Option Value)).getD i none) (fun D V W => cond (D 18) (Step base b s y wd { s with prep := cut s.prep k } W) (cond (D 15) (InsQ base b y (cut s.prep k) (cut y.ps k) wd (V 15) W) (Below wd.heap.size wd W ∧ ((D 14) = true → ∃ g2, (V 14) = .slice (some ⟨g2, 0, none⟩) 2 2 ∧ Cells W g2 28 [.slice (some ⟨qb, 0, none⟩) k y.q, .slice (some ⟨qb, ((k + 1) * 5), none⟩) (s.prep.length - (k + 1)) (y.q - (k + 1))])))) (fun V => [(some 29, V 0), (some 30, V 1), (some 31, V 2), (some 32, V 3), (some 33, V 4), (some 34, V 5), (some 35, V 6), (some 36, V 7), (some 37, V 8), (some 38, V 9), (some 39, V 10), (some 40, V 11), (some 41, V 12), (some 42, V 13), (some 43, V 14), (some 44, V 15), (some 45, V 16), (some 46, V 17), (none, V 18)]) (by kernel_rfl) (by kernel_rfl) (fun V => rfl) ?_ ?_ ?_
     ·intro V
      exact HI.out V
     ·intro i o ho
      have hi : i < 19 := (Array.getElem?_eq_some_iff.1 ho).1
      rcases i with _ | _ | _ | _ | _ | _ | _ | _ | _ | _ | _ | _ | _ | _ | _ | _ | _ | _ | _ | i
      rotate_right
      ·omega
      all_goals obtain rfl := Option.some.inj ho
      all_goals intro D V ρ wi hE hI hDi hT hF hs hd hk
      ·have e0 : ρ (.tmp 0) = .pointer (some ⟨b, 0, none⟩) := hs 0; clear hT hF hk
       exact Reg.Gives.value (v := .pointer (some ⟨b, 0, none⟩)) (w' := wi) (by go_simp) ⟨fun x h => Option.some.inj h, hI⟩
      ·have e0 : ρ (.tmp 0) = .pointer (some ⟨b, 0, none⟩) := hs 0; clear hT hF hk
       exact Reg.Gives.value (v := .pointer (some ⟨b, 0, none⟩)) (w' := wi) (by go_simp) ⟨fun x h => Option.some.inj h, hI⟩
      ·have e30 : ρ (.tmp 30) = .pointer (some ⟨b, 0, none⟩) := (hd 1 30).trans (hk 1 _ rfl); clear hT hF hk
       exact Reg.Gives.value (v := .pointer (some ⟨b, 0, none⟩)) (w' := wi) (by go_simp) ⟨fun x h => Option.some.inj h, hI⟩
      ·have e31 : ρ (.tmp 31) = .pointer (some ⟨b, 0, none⟩) := (hd 2 31).trans (hk 2 _ rfl); clear hT hF hk
       exact Reg.Gives.value (v := .pointer (some ⟨b, 5, none⟩)) (w' := wi) (by go_simp) ⟨fun x h => Option.some.inj h, hI⟩
      ·have e32 : ρ (.tmp 32) = .pointer (some ⟨b, 5, none⟩) := (hd 3 32).trans (hk 3 _ rfl); have hD15 : D 15 = false := hF 3 15; have hD18 : D 18 = false := hF 1 18; clear hT hF; have hI0 := hI
       simp only [hD15, hD18, cond_false] at hI
       have x0 := (HOwd.out.later hI.1).cel.cell (j := 5) rfl
       rw [HQ.out.1] at x0
       exact Reg.Gives.value (v := .slice (some ⟨qb, 0, none⟩) s.prep.length y.q) (w' := wi) (by go_simp) ⟨fun x h => Option.some.inj h, hI0⟩
      ·have e5 : ρ (.tmp 5) = .int .i64 (k : Int) := hs 5; clear hT hF hk
       exact Reg.Gives.value (v := .int .i64 (k : Int)) (w' := wi) (by go_simp) ⟨fun x h => Option.some.inj h, hI⟩
      ·have e33 : ρ (.tmp 33) = .slice (some ⟨qb, 0, none⟩) s.prep.length y.q := (hd 4 33).trans (hk 4 _ rfl); have e34 : ρ (.tmp 34) = .int .i64 (k : Int) := (hd 5 34).trans (hk 5 _ rfl); clear hT hF hk; have h1 := HQ.out.2.1; have h2 := HQ.out.2.2.1
       have h9 : k ≤ y.q := by omega
       have h8 := HNN.out.2.1
       exact Reg.Gives.value (v := .slice (some ⟨qb, 0, none⟩) k y.q) (w' := wi) (by go_simp) ⟨fun x h => Option.some.inj h, hI⟩
      ·have e0 : ρ (.tmp 0) = .pointer (some ⟨b, 0, none⟩) := hs 0; clear hT hF hk
       exact Reg.Gives.value (v := .pointer (some ⟨b, 0, none⟩)) (w' := wi) (by go_simp) ⟨fun x h => Option.some.inj h, hI⟩
      ·have e36 : ρ (.tmp 36) = .pointer (some ⟨b, 0, none⟩) := (hd 7 36).trans (hk 7 _ rfl); clear hT hF hk
       exact Reg.Gives.value (v := .pointer (some ⟨b, 0, none⟩)) (w' := wi) (by go_simp) ⟨fun x h => Option.some.inj h, hI⟩
      ·have e37 : ρ (.tmp 37) = .pointer (some ⟨b, 0, none⟩) := (hd 8 37).trans (hk 8 _ rfl); clear hT hF hk
       exact Reg.Gives.value (v := .pointer (some ⟨b, 5, none⟩)) (w' := wi) (by go_simp) ⟨fun x h => Option.some.inj h, hI⟩
      ·have e38 : ρ (.tmp 38) = .pointer (some ⟨b, 5, none⟩) := (hd 9 38).trans (hk 9 _ rfl); have hD15 : D 15 = false := hF 3 15; have hD18 : D 18 = false := hF 1 18; clear hT hF; have hI0 := hI
       simp only [hD15, hD18, cond_false] at hI
       have x0 := (HOwd.out.later hI.1).cel.cell (j := 5) rfl
       rw [HQ.out.1] at x0
       exact Reg.Gives.value (v := .slice (some ⟨qb, 0, none⟩) s.prep.length y.q) (w' := wi) (by go_simp) ⟨fun x h => Option.some.inj h, hI0⟩
      ·have e5 : ρ (.tmp 5) = .int .i64 (k : Int) := hs 5; clear hT hF hk
       exact Reg.Gives.value (v := .int .i64 (k : Int)) (w' := wi) (by go_simp) ⟨fun x h => Option.some.inj h, hI⟩
      ·have e40 : ρ (.tmp 40) = .int .i64 (k : Int) := (hd 11 40).trans (hk 11 _ rfl); have hc := hE.const; clear hT hF hk; have h1 := HQ.out.2.1; have h2 := HQ.out.2.2.1; have h3 := HQ.out.2.2.2
       have h9 : IntKind.i64.wrap ((k : Int) + 1) = (k : Int) + 1 := by rw [IntKind.wrap_i64]; omega
       exact Reg.Gives.value (v := .int .i64 ((k : Int) + 1)) (w' := wi) (by go_simp) ⟨fun x h => Option.some.inj h, hI⟩
      ·have e39 : ρ (.tmp 39) = .slice (some ⟨qb, 0, none⟩) s.prep.length y.q := (hd 10 39).trans (hk 10 _ rfl); have e41 : ρ (.tmp 41) = .int .i64 ((k : Int) + 1) := (hd 12 41).trans (hk 12 _ rfl); clear hT hF hk; have h1 := HQ.out.2.1; have h2 := HQ.out.2.2.1; have h4 := HCC.out; have h5 := HNN.out.1; have h6 := HNN.out.2.1; have h7 := HNN.out.2.2
       have h8 : (0 : Int) ≤ (k : Int) + 1 := by omega
       have h9 : (k : Int) + 1 ≤ (s.prep.length : Int) := by omega
       have h10 : (k : Int) < (s.prep.length : Int) := by omega
       have h11 : ((k : Int) + 1).toNat = k + 1 := by omega
       exact Reg.Gives.value (v := .slice (some ⟨qb, ((k + 1) * 5), none⟩) (s.prep.length - (k + 1)) (y.q - (k + 1))) (w' := wi) (by go_simp) ⟨fun x h => Option.some.inj h, hI⟩
      ·have e35 : ρ (.tmp 35) = .slice (some ⟨qb, 0, none⟩) k y.q := (hd 6 35).trans (hk 6 _ rfl); have e42 : ρ (.tmp 42) = .slice (some ⟨qb, ((k + 1) * 5), none⟩) (s.prep.length - (k + 1)) (y.q - (k + 1)) := (hd 13 42).trans (hk 13 _ rfl); have hD14 : D 14 = false := hDi; have hD15 : D 15 = false := hF 1 15; have hD18 : D 18 = false := hF 1 18; clear hT hF
       simp only [hD14, hD15, hD18, cond_false] at hI
       have hal := below_alloc wi (.cells #[.slice (some ⟨qb, 0, none⟩) k y.q, .slice (some ⟨qb, ((k + 1) * 5), none⟩) (s.prep.length - (k + 1)) (y.q - (k + 1))] 28)
       exact Reg.Gives.value (v := .slice (some ⟨wi.heap.size, 0, none⟩) 2 2) (w' := wi.alloc (.cells #[.slice (some ⟨qb, 0, none⟩) k y.q, .slice (some ⟨qb, ((k + 1) * 5), none⟩) (s.prep.length - (k + 1)) (y.q - (k + 1))] 28)) (by go_simp) ⟨fun x h => (by cases h), by show cond (D 18) (Step base b s y wd { s with prep := cut s.prep k } (wi.alloc (.cells #[.slice (some ⟨qb, 0, none⟩) k y.q, .slice (some ⟨qb, ((k + 1) * 5), none⟩) (s.prep.length - (k + 1)) (y.q - (k + 1))] 28))) (cond (D 15) (InsQ base b y (cut s.prep k) (cut y.ps k) wd (V 15) (wi.alloc (.cells #[.slice (some ⟨qb, 0, none⟩) k y.q, .slice (some ⟨qb, ((k + 1) * 5), none⟩) (s.prep.length - (k + 1)) (y.q - (k + 1))] 28))) (Below wd.heap.size wd (wi.alloc (.cells #[.slice (some ⟨qb, 0, none⟩) k y.q, .slice (some ⟨qb, ((k + 1) * 5), none⟩) (s.prep.length - (k + 1)) (y.q - (k + 1))] 28)) ∧ (true = true → ∃ g2, (Value.slice (some ⟨wi.heap.size, 0, none⟩) 2 2) = .slice (some ⟨g2, 0, none⟩) 2 2 ∧ Cells (wi.alloc (.cells #[.slice (some ⟨qb, 0, none⟩) k y.q, .slice (some ⟨qb, ((k + 1) * 5), none⟩) (s.prep.length - (k + 1)) (y.q - (k + 1))] 28)) g2 28 [.slice (some ⟨qb, 0, none⟩) k y.q, .slice (some ⟨qb, ((k + 1) * 5), none⟩) (s.prep.length - (k + 1)) (y.q - (k + 1))]))); rw [hD15, hD18]; exact ⟨hI.1.trans (hal.mono hI.1.size), fun _ => ⟨_, rfl, cells_new wi _ _ _ rfl⟩⟩⟩
      ·have e43 : ρ (.tmp 43) = V 14 := hd 14 43; have hf := hE.func; have hD14 : D 14 = true := hT 1 14; have hD15 : D 15 = false := hDi; have hD18 : D 18 = false := hF 1 18; clear hT hF
       simp only [hD14, hD15, hD18, cond_false] at hI
       obtain ⟨g2, hv2, hc2⟩ := hI.2 trivial; have e43b := e43.trans hv2; clear e43
       refine Reg.Gives.call (f := 104) (args := #[.slice (some ⟨g2, 0, none⟩) 2 2]) (w' := wi) (by go_simp) ?_
       refine (cut_call (k := k) (HOwd.out.later hI.1) HOwd.out hI.1 HBS.out HQ.out.2.2.2 HQ.out.2.1 HQ.out.1 (by first | exact Or.inl HCC.out | exact Or.inr rfl) HQ.out.2.2.1 hc2).mono ?_
       rintro e w'' ⟨v', rfl, hins⟩
       refine ⟨_, rfl, fun x h => (by cases h), ?_⟩
       show cond (D 18) (Step base b s y wd { s with prep := cut s.prep k } w'') (cond true (InsQ base b y (cut s.prep k) (cut y.ps k) wd v' w'') (Below wd.heap.size wd w'' ∧ ((D 14) = true → ∃ g2, (V 14) = .slice (some ⟨g2, 0, none⟩) 2 2 ∧ Cells w'' g2 28 [.slice (some ⟨qb, 0, none⟩) k y.q, .slice (some ⟨qb, ((k + 1) * 5), none⟩) (s.prep.length - (k + 1)) (y.q - (k + 1))])))
       rw [hD18]
       exact hins
      ·have e29 : ρ (.tmp 29) = .pointer (some ⟨b, 0, none⟩) := (hd 0 29).trans (hk 0 _ rfl); clear hT hF hk
       exact Reg.Gives.value (v := .pointer (some ⟨b, 0, none⟩)) (w' := wi) (by go_simp) ⟨fun x h => Option.some.inj h, hI⟩
      ·have e45 : ρ (.tmp 45) = .pointer (some ⟨b, 0, none⟩) := (hd 16 45).trans (hk 16 _ rfl); clear hT hF hk
       exact Reg.Gives.value (v := .pointer (some ⟨b, 5, none⟩)) (w' := wi) (by go_simp) ⟨fun x h => Option.some.inj h, hI⟩
      ·have e46 : ρ (.tmp 46) = .pointer (some ⟨b, 5, none⟩) := (hd 17 46).trans (hk 17 _ rfl); have e44 : ρ (.tmp 44) = V 15 := hd 15 44; have hD15 : D 15 = true := hT 1 15; have hD18 : D 18 = false := hDi; clear hT hF
       simp only [hD15, hD18, cond_true, cond_false] at hI
       obtain ⟨A9, n9, c9, f1, x0, x1⟩ := insQ_cells HOwd.out hI; have e44b := e44.trans f1; clear e44
       exact Reg.Gives.skip (w' := wi.setCell ⟨b, 5, none⟩ (V 15)) (by rw [f1]; clear f1; go_simp) ⟨fun x h => (by cases h), insQ_step HOwd.out hI⟩
     ·intro V wz hk hI
      simp only [Reg.putsO, List.foldl_cons, List.foldl_nil, Act.put, List.setIfInBounds_toArray, List.set_cons_succ, List.set_cons_zero]
      replace hI : cond true (Step base b s y wd { s with prep := cut s.prep k } wz) (cond true (InsQ base b y (cut s.prep k) (cut y.ps k) wd (V 15) wz) (Below wd.heap.size wd wz ∧ (true = true → ∃ g2, (V 14) = .slice (some ⟨g2, 0, none⟩) 2 2 ∧ Cells wz g2 28 [.slice (some ⟨qb, 0, none⟩) k y.q, .slice (some ⟨qb, ((k + 1) * 5), none⟩) (s.prep.length - (k + 1)) (y.q - (k + 1))]))) := hI
      clear hk
      obtain ⟨y2, hO2, hN2, hG2⟩ := hI
      have HR2 := Lib.hid (cells_only HRwd.out hN2 fun e => by have := HTL.out _ e; omega)
      have HN2 := Lib.hid (And.intro hO2 (And.intro hN2 hG2))
      have HH2 := Lib.hid ((HHwd.out.next hN2 hG2).two)
      clear hO2 hN2 hG2 HI
      have hx := HR2.out
      unfold Rc.vals at hx
      have x0 := hx.cell (j := 0) rfl
      have x1 := hx.cell (j := 1) rfl
      have x2 := hx.cell (j := 2) rfl
      have x3 := hx.cell (j := 3) rfl
      have x4 := hx.cell (j := 4) rfl
      have x5 := hx.cell (j := 5) rfl
      have x6 := hx.cell (j := 6) rfl
      have x7 := hx.cell (j := 7) rfl
      have x8 := hx.cell (j := 8) rfl
      have x9 := hx.cell (j := 9) rfl
      have x10 := hx.cell (j := 10) rfl
      have x11 := hx.cell (j := 11) rfl
      have x12 := hx.cell (j := 12) rfl
      have x13 := hx.cell (j := 13) rfl
      have x14 := hx.cell (j := 14) rfl
      clear hx
      go_wp2_with fail
      clear x0 x1 x2 x3 x4 x5 x6 x7 x8 x9 x10 x11 x12 x13 x14
      refine (conclude_any { s with prep := cut s.prep k } y2 r z base b wz HN2.out.1 HH2.out (HSMS.out.cut k) HRS.out).mono ?_
      rintro e w9 ⟨rfl, hst⟩
      have HN := Lib.hid hst
      clear hst
      go_wp2_with fail
      go_returns
      exact ⟨ret_int (by rw [HFX.out]), by rw [HFX.out]; exact Step.before HBwc.out (Step.next HOwd.out HNwd.out (fun _ e => Or.inl e) (Step.next HN2.out.1 HN2.out.2.1 HN2.out.2.2 HN.out))⟩
   | false =>
    have HY := Lib.hid hy
    rw [hy] at x14
    have HSMS := HSM
    have HQ := HQ0
    have HNN : Hid (s0.prep.length ≤ 100000 ∧ y.q ≤ 9223372036854775807 ∧ k ≤ 100000) := Lib.hid ⟨HQ.out.2.2.2, by have := HMAX.out; unfold maxLen at this; omega, by have := HQ.out.2.1; have := HQ.out.2.2.2; omega⟩
    have HFX : Hid (F = (conc { s0 with prep := cut s0.prep k } r, 0)) := Lib.hid (by
     rw [HF.out]
     unfold fDecide
     rw [if_neg (by have := HNEG.out; omega), HK.out, Int.toNat_natCast, if_neg (by rw [HY.out]; exact Bool.false_ne_true)])
    clear hy hcap hmax hkl hk' hcell hQ
    by_cases hcq : y.q = k + 1
    ·have HCC := Lib.hid hcq
     clear hcq
     have HI : Hid (∀ V : Nat → Value, cond false (Step base b s0 y wc { s0 with prep := cut s0.prep k } wc.drew) (cond false (InsQ base b y (cut s0.prep k) (cut y.ps k) wc (V 15) wc.drew) (Below wc.heap.size wc wc.drew ∧ (false = true → ∃ g2, (V 14) = .slice (some ⟨g2, 0, none⟩) 2 2 ∧ Cells wc.drew g2 28 [.slice (some ⟨qb, 0, none⟩) k y.q, .slice (some ⟨qb, 0, none⟩) (s0.prep.length - (k + 1)) (y.q - (k + 1))])))) := Lib.hid fun V => ⟨(Below.refl _ _).drew, fun e => (by cases e)⟩
     go_upto_region 6 with (fail)
     refine Reg.region_inv (by kernel_rfl) (fun i => ([some (.pointer (some ⟨b, 0, none⟩)), some (.pointer (some ⟨b, 0, none⟩)), some (.pointer (some ⟨b, 0, none⟩)), some (.pointer (some ⟨b, 5, none⟩)), some (.slice (some ⟨qb, 0, none⟩) s0.prep.length y.q), some (.int .i64 (k : Int)), some (.slice (some ⟨qb, 0, none⟩) k y.q), some (.pointer (some ⟨b, 0, none⟩)), some (.pointer (some ⟨b, 0, none⟩)), some (.pointer (some ⟨b, 5, none⟩)), some (.slice (some ⟨qb, 0, none⟩) s0.prep.length y.q), some (.int .i64 (k : Int)), some (.int .i64 ((k : Int) + 1)), some (.slice (some ⟨qb, 0, none⟩) (s0.prep.length - (k + 1)) (y.q - (k + 1))), none, none, some (.pointer (some ⟨b, 0, none⟩)), some (.pointer (some ⟨b, 5, none⟩)), none] : List (Option Value)).getD i none) (fun D V W => cond (D 18) (Step base b s0 y wc { s0 with prep := cut s0.prep k } W) (cond (D 15) (InsQ base b y (cut s0.prep k) (cut y.ps k) wc (V 15) W) (Below wc.heap.size wc W ∧ ((D 14) = true → ∃ g2, (V 14) = .slice (some ⟨g2, 0, none⟩) 2 2 ∧ Cells W g2 28 [.slice (some ⟨qb, 0, none⟩) k y.q, .slice (some ⟨qb, 0, none⟩) (s0.prep.length - (k + 1)) (y.q - (k + 1))])))) (fun V => [(some 29, V 0), (some 30, V 1), (some 31, V 2), (some 32, V 3), (some 33, V 4), (some 34, V 5), (some 35, V 6), (some 36, V 7), (some 37, V 8), (some 38, V 9), (some 39, V 10), (some 40, V 11), (some 41, V 12), (some 42, V 13), (some 43, V 14), (some 44, V 15), (some 45, V 16), (some 46, V 17), (none, V 18)]) (by kernel_rfl) (by kernel_rfl) (fun V => rfl) ?_ ?_ ?_
     ·intro V
      exact HI.out V
     ·intro i o ho
      have hi : i < 19 := (Array.getElem?_eq_some_iff.1 ho).1
      rcases i with _ | _ | _ | _ | _ | _ | _ | _ | _ | _ | _ | _ | _ | _ | _ | _ | _ | _ | _ | i
      rotate_right
      ·omega
      all_goals obtain rfl := Option.some.inj ho
      all_goals intro D V ρ wi hE hI hDi hT hF hs hd hk
      ·have e0 : ρ (.tmp 0) = .pointer (some ⟨b, 0, none⟩) := hs 0; clear hT hF hk
       exact Reg.Gives.value (v := .pointer (some ⟨b, 0, none⟩)) (w' := wi) (by go_simp) ⟨fun x h => Option.some.inj h, hI⟩
      ·have e0 : ρ (.tmp 0) = .pointer (some ⟨b, 0, none⟩) := hs 0; clear hT hF hk
       exact Reg.Gives.value (v := .pointer (some ⟨b, 0, none⟩)) (w' := wi) (by go_simp) ⟨fun x h => Option.some.inj h, hI⟩
      ·have e30 : ρ (.tmp 30) = .pointer (some ⟨b, 0, none⟩) := (hd 1 30).trans (hk 1 _ rfl); clear hT hF hk
       exact Reg.Gives.value (v := .pointer (some ⟨b, 0, none⟩)) (w' := wi) (by go_simp) ⟨fun x h => Option.some.inj h, hI⟩
      ·have e31 : ρ (.tmp 31) = .pointer (some ⟨b, 0, none⟩) := (hd 2 31).trans (hk 2 _ rfl); clear hT hF hk
       exact Reg.Gives.value (v := .pointer (some ⟨b, 5, none⟩)) (w' := wi) (by go_simp) ⟨fun x h => Option.some.inj h, hI⟩
      ·have e32 : ρ (.tmp 32) = .pointer (some ⟨b, 5, none⟩) := (hd 3 32).trans (hk 3 _ rfl); have hD15 : D 15 = false := hF 3 15; have hD18 : D 18 = false := hF 1 18; clear hT hF; have hI0 := hI
       simp only [hD15, hD18, cond_false] at hI
       have x0 := (HOwc.out.later hI.1).cel.cell (j := 5) rfl
       rw [HQ.out.1] at x0
       exact Reg.Gives.value (v := .slice (some ⟨qb, 0, none⟩) s0.prep.length y.q) (w' := wi) (by go_simp) ⟨fun x h => Option.some.inj h, hI0⟩
      ·have e5 : ρ (.tmp 5) = .int .i64 (k : Int) := hs 5; clear hT hF hk
       exact Reg.Gives.value (v := .int .i64 (k : Int)) (w' := wi) (by go_simp) ⟨fun x h => Option.some.inj h, hI⟩
      ·have e33 : ρ (.tmp 33) = .slice (some ⟨qb, 0, none⟩) s0.prep.length y.q := (hd 4 33).trans (hk 4 _ rfl); have e34 : ρ (.tmp 34) = .int .i64 (k : Int) := (hd 5 34).trans (hk 5 _ rfl); clear hT hF hk; have h1 := HQ.out.2.1; have h2 := HQ.out.2.2.1
       have h9 : k ≤ y.q := by omega
       have h8 := HNN.out.2.1
       exact Reg.Gives.value (v := .slice (some ⟨qb, 0, none⟩) k y.q) (w' := wi) (by go_simp) ⟨fun x h => Option.some.inj h, hI⟩
      ·have e0 : ρ (.tmp 0) = .pointer (some ⟨b, 0, none⟩) := hs 0; clear hT hF hk
       exact Reg.Gives.value (v := .pointer (some ⟨b, 0, none⟩)) (w' := wi) (by go_simp) ⟨fun x h => Option.some.inj h, hI⟩
      ·have e36 : ρ (.tmp 36) = .pointer (some ⟨b, 0, none⟩) := (hd 7 36).trans (hk 7 _ rfl); clear hT hF hk
       exact Reg.Gives.value (v := .pointer (some ⟨b, 0, none⟩)) (w' := wi) (by go_simp) ⟨fun x h => Option.some.inj h, hI⟩
      ·have e37 : ρ (.tmp 37) = .pointer (some ⟨b, 0, none⟩) := (hd 8 37).trans (hk 8 _ rfl); clear hT hF hk
       exact Reg.Gives.value (v := .pointer (some ⟨b, 5, none⟩)) (w' := wi) (by go_simp) ⟨fun x h => Option.some.inj h, hI⟩
      ·have e38 : ρ (.tmp 38) = .pointer (some ⟨b, 5, none⟩) := (hd 9 38).trans (hk 9 _ rfl); have hD15 : D 15 = false := hF 3 15; have hD18 : D 18 = false := hF 1 18; clear hT hF; have hI0 := hI
       simp only [hD15, hD18, cond_false] at hI
       have x0 := (HOwc.out.later hI.1).cel.cell (j := 5) rfl
       rw [HQ.out.1] at x0
       exact Reg.Gives.value (v := .slice (some ⟨qb, 0, none⟩) s0.prep.length y.q) (w' := wi) (by go_simp) ⟨fun x h => Option.some.inj h, hI0⟩
      ·have e5 : ρ (.tmp 5) = .int .i64 (k : Int) := hs 5; clear hT hF hk
       exact Reg.Gives.value (v := .int .i64 (k : Int)) (w' := wi) (by go_simp) ⟨fun x h => Option.some.inj h, hI⟩
      ·have e40 : ρ (.tmp 40) = .int .i64 (k : Int) := (hd 11 40).trans (hk 11 _ rfl); have hc := hE.const; clear hT hF hk; have h1 := HQ.out.2.1; have h2 := HQ.out.2.2.1; have h3 := HQ.out.2.2.2
       have h9 : IntKind.i64.wrap ((k : Int) + 1) = (k : Int) + 1 := by rw [IntKind.wrap_i64]; omega
       exact Reg.Gives.value (v := .int .i64 ((k : Int) + 1)) (w' := wi) (by go_simp) ⟨fun x h => Option.some.inj h, hI⟩
      ·have e39 : ρ (.tmp 39) = .slice (some ⟨qb, 0, none⟩) s0.prep.length y.q := (hd 10 39).trans (hk 10 _ rfl); have e41 : ρ (.tmp 41) = .int .i64 ((k : Int) + 1) := (hd 12 41).trans (hk 12 _ rfl); clear hT hF hk; have h1 := HQ.out.2.1; have h2 := HQ.out.2.2.1; have h4 := HCC.out; have h5 := HNN.out.1; have h6 := HNN.out.2.1; have h7 := HNN.out.2.2
       have h8 : (0 : Int) ≤ (k : Int) + 1 := by omega
       have h9 : (k : Int) + 1 ≤ (s0.prep.length : Int) := by omega
       have h10 : (k : Int) < (s0.prep.length : Int) := by omega
       have h11 : ((k : Int) + 1).toNat = k + 1 := by omega
       exact Reg.Gives.value (v := .slice (some ⟨qb, 0, none⟩) (s0.prep.length - (k + 1)) (y.q - (k + 1))) (w' := wi) (by go_simp) ⟨fun x h => Option.some.inj h, hI⟩
      ·have e35 : ρ (.tmp 35) = .slice (some ⟨qb, 0, none⟩) k y.q := (hd 6 35).trans (hk 6 _ rfl); have e42 : ρ (.tmp 42) = .slice (some ⟨qb, 0, none⟩) (s0.prep.length - (k + 1)) (y.q - (k + 1)) := (hd 13 42).trans (hk 13 _ rfl); have hD14 : D 14 = false := hDi; have hD15 : D 15 = false := hF 1 15; have hD18 : D 18 = false := hF 1 18; clear hT hF
       simp only [hD14, hD15, hD18, cond_false] at hI
       have hal := below_alloc wi (.cells #[.slice (some ⟨qb, 0, none⟩) k y.q, .slice (some ⟨qb, 0, none⟩) (s0.prep.length - (k + 1)) (y.q - (k + 1))] 28)
       exact Reg.Gives.value (v := .slice (some ⟨wi.heap.size, 0, none⟩) 2 2) (w' := wi.alloc (.cells #[.slice (some ⟨qb, 0, none⟩) k y.q, .slice (some ⟨qb, 0, none⟩) (s0.prep.length - (k + 1)) (y.q - (k + 1))] 28)) (by go_simp) ⟨fun x h => (by cases h), by show cond (D 18) (Step base b s0 y wc { s0 with prep := cut s0.prep k } (wi.alloc (.cells #[.slice (some ⟨qb, 0, none⟩) k y.q, .slice (some ⟨qb, 0, none⟩) (s0.prep.length - (k + 1)) (y.q - (k + 1))] 28))) (cond (D 15) (InsQ base b y (cut s0.prep k) (cut y.ps k) wc (V 15) (wi.alloc (.cells #[.slice (some ⟨qb, 0, none⟩) k y.q, .slice (some ⟨qb, 0, none⟩) (s0.prep.length - (k + 1)) (y.q - (k + 1))] 28))) (Below wc.heap.size wc (wi.alloc (.cells #[.slice (some ⟨qb, 0, none⟩) k y.q, .slice (some ⟨qb, 0, none⟩) (s0.prep.length - (k + 1)) (y.q - (k + 1))] 28)) ∧ (true = true → ∃ g2, (Value.slice (some ⟨wi.heap.size, 0, none⟩) 2 2) = .slice (some ⟨g2, 0, none⟩) 2 2 ∧ Cells (wi.alloc (.cells #[.slice (some ⟨qb, 0, none⟩) k y.q, .slice (some ⟨qb, 0, none⟩) (s0.prep.length - (k + 1)) (y.q - (k + 1))] 28)) g2 28 [.slice (some ⟨qb, 0, none⟩) k y.q, .slice (some ⟨qb, 0, none⟩) (s0.prep.length - (k + 1)) (y.q - (k + 1))]))); rw [hD15, hD18]; exact ⟨hI.1.trans (hal.mono hI.1.size), fun _ => ⟨_, rfl, cells_new wi _ _ _ rfl⟩⟩⟩
      ·have e43 : ρ (.tmp 43) = V 14 := hd 14 43; have hf := hE.func; have hD14 : D 14 = true := hT 1 14; have hD15 : D 15 = false := hDi; have hD18 : D 18 = false := hF 1 18; clear hT hF
       simp only [hD14, hD15, hD18, cond_false] at hI
       obtain ⟨g2, hv2, hc2⟩ := hI.2 trivial; have e43b := e43.trans hv2; clear e43
       refine Reg.Gives.call (f := 104) (args := #[.slice (some ⟨g2, 0, none⟩) 2 2]) (w' := wi) (by go_simp) ?_
       refine (cut_call (k := k) (HOwc.out.later hI.1) HOwc.out hI.1 HBS.out HQ.out.2.2.2 HQ.out.2.1 HQ.out.1 (by first | exact Or.inl HCC.out | exact Or.inr rfl) HQ.out.2.2.1 hc2).mono ?_
       rintro e w'' ⟨v', rfl, hins⟩
       refine ⟨_, rfl, fun x h => (by cases h), ?_⟩
       show cond (D 18) (Step base b s0 y wc { s0 with prep := cut s0.prep k } w'') (cond true (InsQ base b y (cut s0.prep k) (cut y.ps k) wc v' w'') (Below wc.heap.size wc w'' ∧ ((D 14) = true → ∃ g2, (V 14) = .slice (some ⟨g2, 0, none⟩) 2 2 ∧ Cells w'' g2 28 [.slice (some ⟨qb, 0, none⟩) k y.q, .slice (some ⟨qb, 0, none⟩) (s0.prep.length - (k + 1)) (y.q - (k + 1))])))
       rw [hD18]
       exact hins
      ·have e29 : ρ (.tmp 29) = .pointer (some ⟨b, 0, none⟩) := (hd 0 29).trans (hk 0 _ rfl); clear hT hF hk
       exact Reg.Gives.value (v := .pointer (some ⟨b, 0, none⟩)) (w' := wi) (by go_simp) ⟨fun x h => Option.some.inj h, hI⟩
      ·have e45 : ρ (.tmp 45) = .pointer (some ⟨b, 0, none⟩) := (hd 16 45).trans (hk 16 _ rfl); clear hT hF hk
       exact Reg.Gives.value (v := .pointer (some ⟨b, 5, none⟩)) (w' := wi) (by go_simp) ⟨fun x h => Option.some.inj h, hI⟩
      ·have e46 : ρ (.tmp 46) = .pointer (some ⟨b, 5, none⟩) := (hd 17 46).trans (hk 17 _ rfl); have e44 : ρ (.tmp 44) = V 15 := hd 15 44; have hD15 : D 15 = true := hT 1 15; have hD18 : D 18 = false := hDi; clear hT hF
       simp only [hD15, hD18, cond_true, cond_false] at hI
       obtain ⟨A9, n9, c9, f1, x0, x1⟩ := insQ_cells HOwc.out hI; have e44b := e44.trans f1; clear e44
       exact Reg.Gives.skip (w' := wi.setCell ⟨b, 5, none⟩ (V 15)) (by rw [f1]; clear f1; go_simp) ⟨fun x h => (by cases h), insQ_step HOwc.out hI⟩
     ·intro V wz hk hI
      simp only [Reg.putsO, List.foldl_cons, List.foldl_nil, Act.put, List.setIfInBounds_toArray, List.set_cons_succ, List.set_cons_zero]
      replace hI : cond true (Step base b s0 y wc { s0 with prep := cut s0.prep k } wz) (cond true (InsQ base b y (cut s0.prep k) (cut y.ps k) wc (V 15) wz) (Below wc.heap.size wc wz ∧ (true = true → ∃ g2, (V 14) = .slice (some ⟨g2, 0, none⟩) 2 2 ∧ Cells wz g2 28 [.slice (some ⟨qb, 0, none⟩) k y.q, .slice (some ⟨qb, 0, none⟩) (s0.prep.length - (k + 1)) (y.q - (k + 1))]))) := hI
      clear hk
      obtain ⟨y2, hO2, hN2, hG2⟩ := hI
      have HR2 := Lib.hid (cells_only HRwc.out hN2 fun e => by have := HTL.out _ e; omega)
      have HN2 := Lib.hid (And.intro hO2 (And.intro hN2 hG2))
      have HH2 := Lib.hid ((HHwc.out.next hN2 hG2).two)
      clear hO2 hN2 hG2 HI
      have hx := HR2.out
      unfold Rc.vals at hx
      have x0 := hx.cell (j := 0) rfl
      have x1 := hx.cell (j := 1) rfl
      have x2 := hx.cell (j := 2) rfl
      have x3 := hx.cell (j := 3) rfl
      have x4 := hx.cell (j := 4) rfl
      have x5 := hx.cell (j := 5) rfl
      have x6 := hx.cell (j := 6) rfl
      have x7 := hx.cell (j := 7) rfl
      have x8 := hx.cell (j := 8) rfl
      have x9 := hx.cell (j := 9) rfl
      have x10 := hx.cell (j := 10) rfl
      have x11 := hx.cell (j := 11) rfl
      have x12 := hx.cell (j := 12) rfl
      have x13 := hx.cell (j := 13) rfl
      have x14 := hx.cell (j := 14) rfl
      clear hx
      go_wp2_with fail
      clear x0 x1 x2 x3 x4 x5 x6 x7 x8 x9 x10 x11 x12 x13 x14
      refine (conclude_any { s0 with prep := cut s0.prep k } y2 r z base b wz HN2.out.1 HH2.out (HSMS.out.cut k) HRS.out).mono ?_
      rintro e w9 ⟨rfl, hst⟩
      have HN := Lib.hid hst
      clear hst
      go_wp2_with fail
      go_returns
      exact ⟨ret_int (by rw [HFX.out]), by rw [HFX.out]; exact Step.before HBwc.out (Step.next HOwc.out (Only.refl _ _) (fun _ e => Or.inl e) (Step.next HN2.out.1 HN2.out.2.1 HN2.out.2.2 HN.out))⟩
    ·have HCC := Lib.hid hcq
     clear hcq
     have HI : Hid (∀ V : Nat → Value, cond false (Step base b s0 y wc { s0 with prep := cut s0.prep k } wc.drew) (cond false (InsQ base b y (cut s0.prep k) (cut y.ps k) wc (V 15) wc.drew) (Below wc.heap.size wc wc.drew ∧ (false = true → ∃ g2, (V 14) = .slice (some ⟨g2, 0, none⟩) 2 2 ∧ Cells wc.drew g2 28 [.slice (some ⟨qb, 0, none⟩) k y.q, .slice (some ⟨qb, ((k + 1) * 5), none⟩) (s0.prep.length - (k + 1)) (y.q - (k + 1))])))) := Lib.hid fun V => ⟨(Below.refl _ _).drew, fun e => (by cases e)⟩
     go_upto_region 6 with (fail)
     refine Reg.region_inv (by kernel_rfl) (fun i => ([some (.pointer (some ⟨b, 0, none⟩)), some (.pointer (some ⟨b, 0, none⟩)), some (.pointer (some ⟨b, 0, none⟩)), some (.pointer (some ⟨b, 5, none⟩)), some (.slice (some ⟨qb, 0, none⟩) s0.prep.length y.q), some (.int .i64 (k : Int)), some (.slice (some ⟨qb, 0, none⟩) k y.q), some (.pointer (some ⟨b, 0, none⟩)), some (.pointer (some ⟨b, 0, none⟩)), some (.pointer (some ⟨b, 5, none⟩)), some (.slice (some ⟨qb, 0, none⟩) s0.prep.length y.q), some (.int .i64 (k : Int)), some (.int .i64 ((k : Int) + 1)), some (.slice (some ⟨qb, ((k + 1) * 5), none⟩) (s0.prep.length - (k + 1)) (y.q - (k + 1))), none, none, some (.pointer (some ⟨b, 0, none⟩)), some (.pointer (some ⟨b, 5, none⟩)), none] : List (Option Value)).getD i none) (fun D V W => cond (D 18) (Step base b s0 y wc { s0 with prep := cut s0.prep k } W) (cond (D 15) (InsQ base b y (cut s0.prep k) (cut y.ps k) wc (V 15) W) (Below wc.heap.size wc W ∧ ((D 14) = true → ∃ g2, (V 14) = .slice (some ⟨g2, 0, none⟩) 2 2 ∧ Cells W g2 28 [.slice (some ⟨qb, 0, none⟩) k y.q, .slice (some ⟨qb, ((k + 1) * 5), none⟩) (s0.prep.length - (k + 1)) (y.q - (k + 1))])))) (fun V => [(some 29, V 0), (some 30, V 1), (some 31, V 2), (some 32, V 3), (some 33, V 4), (some 34, V 5), (some 35, V 6), (some 36, V 7), (some 37, V 8), (some 38, V 9), (some 39, V 10), (some 40, V 11), (some 41, V 12), (some 42, V 13), (some 43, V 14), (some 44, V 15), (some 45, V 16), (some 46, V 17), (none, V 18)]) (by kernel_rfl) (by kernel_rfl) (fun V => rfl) ?_ ?_ ?_
     ·intro V
      exact HI.out V
     ·intro i o ho
      have hi : i < 19 := (Array.getElem?_eq_some_iff.1 ho).1
      rcases i with _ | _ | _ | _ | _ | _ | _ | _ | _ | _ | _ | _ | _ | _ | _ | _ | _ | _ | _ | i
      rotate_right
      ·omega
      all_goals obtain rfl := Option.some.inj ho
      all_goals intro D V ρ wi hE hI hDi hT hF hs hd hk
      ·have e0 : ρ (.tmp 0) = .pointer (some ⟨b, 0, none⟩) := hs 0; clear hT hF hk
       exact Reg.Gives.value (v := .pointer (some ⟨b, 0, none⟩)) (w' := wi) (by go_simp) ⟨fun x h => Option.some.inj h, hI⟩
      ·have e0 : ρ (.tmp 0) = .pointer (some ⟨b, 0, none⟩) := hs 0; clear hT hF hk
       exact Reg.Gives.value (v := .pointer (some ⟨b, 0, none⟩)) (w' := wi) (by go_simp) ⟨fun x h => Option.some.inj h, hI⟩
      ·have e30 : ρ (.tmp 30) = .pointer (some ⟨b, 0, none⟩) := (hd 1 30).trans (hk 1 _ rfl); clear hT hF hk
       exact Reg.Gives.value (v := .pointer (some ⟨b, 0, none⟩)) (w' := wi) (by go_simp) ⟨fun x h => Option.some.inj h, hI⟩
      ·have e31 : ρ (.tmp 31) = .pointer (some ⟨b, 0, none⟩) := (hd 2 31).trans (hk 2 _ rfl); clear hT hF hk
       exact Reg.Gives.value (v := .pointer (some ⟨b, 5, none⟩)) (w' := wi) (by go_simp) ⟨fun x h => Option.some.inj h, hI⟩
      ·have e32 : ρ (.tmp 32) = .pointer (some ⟨b, 5, none⟩) := (hd 3 32).trans (hk 3 _ rfl); have hD15 : D 15 = false := hF 3 15; have hD18 : D 18 = false := hF 1 18; clear hT hF; have hI0 := hI
       simp only [hD15, hD18, cond_false] at hI
       have x0 := (HOwc.out.later hI.1).cel.cell (j := 5) rfl
       rw [HQ.out.1] at x0
       exact Reg.Gives.value (v := .slice (some ⟨qb, 0, none⟩) s0.prep.length y.q) (w' := wi) (by go_simp) ⟨fun x h => Option.some.inj h, hI0⟩
      ·have e5 : ρ (.tmp 5) = .int .i64 (k : Int) := hs 5; clear hT hF hk
       exact Reg.Gives.value (v := .int .i64 (k : Int)) (w' := wi) (by go_simp) ⟨fun x h => Option.some.inj h, hI⟩
      ·have e33 : ρ (.tmp 33) = .slice (some ⟨qb, 0, none⟩) s0.prep.length y.q := (hd 4 33).trans (hk 4 _ rfl); have e34 : ρ (.tmp 34) = .int .i64 (k : Int) := (hd 5 34).trans (hk 5 _ rfl); clear hT hF hk; have h1 := HQ.out.2.1; have h2 := HQ.out.2.2.1
       have h9 : k ≤ y.q := by omega
       have h8 := HNN.out.2.1
       exact Reg.Gives.value (v := .slice (some ⟨qb, 0, none⟩) k y.q) (w' := wi) (by go_simp) ⟨fun x h => Option.some.inj h, hI⟩
      ·have e0 : ρ (.tmp 0) = .pointer (some ⟨b, 0, none⟩) := hs 0; clear hT hF hk
       exact Reg.Gives.value (v := .pointer (some ⟨b, 0, none⟩)) (w' := wi) (by go_simp) ⟨fun x h => Option.some.inj h, hI⟩
      ·have e36 : ρ (.tmp 36) = .pointer (some ⟨b, 0, none⟩) := (hd 7 36).trans (hk 7 _ rfl); clear hT hF hk
       exact Reg.Gives.value (v := .pointer (some ⟨b, 0, none⟩)) (w' := wi) (by go_simp) ⟨fun x h => Option.some.inj h, hI⟩
      ·have e37 : ρ (.tmp 37) = .pointer (some ⟨b, 0, none⟩) := (hd 8 37).trans (hk 8 _ rfl); clear hT hF hk
       exact Reg.Gives.value (v := .pointer (some ⟨b, 5, none⟩)) (w' := wi) (by go_simp) ⟨fun x h => Option.some.inj h, hI⟩
      ·have e38 : ρ (.tmp 38) = .pointer (some ⟨b, 5, none⟩) := (hd 9 38).trans (hk 9 _ rfl); have hD15 : D 15 = false := hF 3 15; have hD18 : D 18 = false := hF 1 18; clear hT hF; have hI0 := hI
       simp only [hD15, hD18, cond_false] at hI
       have x0 := (HOwc.out.later hI.1).cel.cell (j := 5) rfl
       rw [HQ.out.1] at x0
       exact Reg.Gives.value (v := .slice (some ⟨qb, 0, none⟩) s0.prep.length y.q) (w' := wi) (by go_simp) ⟨fun x h => Option.some.inj h, hI0⟩
      ·have e5 : ρ (.tmp 5) = .int .i64 (k : Int) := hs 5; clear hT hF hk
       exact Reg.Gives.value (v := .int .i64 (k : Int)) (w' := wi) (by go_simp) ⟨fun x h => Option.some.inj h, hI⟩
      ·have e40 : ρ (.tmp 40) = .int .i64 (k : Int) := (hd 11 40).trans (hk 11 _ rfl); have hc := hE.const; clear hT hF hk; have h1 := HQ.out.2.1; have h2 := HQ.out.2.2.1; have h3 := HQ.out.2.2.2
       have h9 : IntKind.i64.wrap ((k : Int) + 1) = (k : Int) + 1 := by rw [IntKind.wrap_i64]; omega
       exact Reg.Gives.value (v := .int .i64 ((k : Int) + 1)) (w' := wi) (by go_simp) ⟨fun x h => Option.some.inj h, hI⟩
      ·have e39 : ρ (.tmp 39) = .slice (some ⟨qb, 0, none⟩) s0.prep.length y.q := (hd 10 39).trans (hk 10 _ rfl); have e41 : ρ (.tmp 41) = .int .i64 ((k : Int) + 1) := (hd 12 41).trans (hk 12 _ rfl); clear hT hF hk; have h1 := HQ.out.2.1; have h2 := HQ.out.2.2.1; have h4 := HCC.out; have h5 := HNN.out.1; have h6 := HNN.out.2.1; have h7 := HNN.out.2.2
       have h8 : (0 : Int) ≤ (k : Int) + 1 := by omega
       have h9 : (k : Int) + 1 ≤ (s0.prep.length : Int) := by omega
       have h10 : (k : Int) < (s0.prep.length : Int) := by omega
       have h11 : ((k : Int) + 1).toNat = k + 1 := by omega
       exact Reg.Gives.value (v := .slice (some ⟨qb, ((k + 1) * 5), none⟩) (s0.prep.length - (k + 1)) (y.q - (k + 1))) (w' := wi) (by go_simp) ⟨fun x h => Option.some.inj h, hI⟩
      ·have e35 : ρ (.tmp 35) = .slice (some ⟨qb, 0, none⟩) k y.q := (hd 6 35).trans (hk 6 _ rfl); have e42 : ρ (.tmp 42) = .slice (some ⟨qb, ((k + 1) * 5), none⟩) (s0.prep.length - (k + 1)) (y.q - (k + 1)) := (hd 13 42).trans (hk 13 _ rfl); have hD14 : D 14 = false := hDi; have hD15 : D 15 = false := hF 1 15; have hD18 : D 18 = false := hF 1 18; clear hT hF
       simp only [hD14, hD15, hD18, cond_false] at hI
       have hal := below_alloc wi (.cells #[.slice (some ⟨qb, 0, none⟩) k y.q, .slice (some ⟨qb, ((k + 1) * 5), none⟩) (s0.prep.length - (k + 1)) (y.q - (k + 1))] 28)
       exact Reg.Gives.value (v := .slice (some ⟨wi.heap.size, 0, none⟩) 2 2) (w' := wi.alloc (.cells #[.slice (some ⟨qb, 0, none⟩) k y.q, .slice (some ⟨qb, ((k + 1) * 5), none⟩) (s0.prep.length - (k + 1)) (y.q - (k + 1))] 28)) (by go_simp) ⟨fun x h => (by cases h), by show cond (D 18) (Step base b s0 y wc { s0 with prep := cut s0.prep k } (wi.alloc (.cells #[.slice (some ⟨qb, 0, none⟩) k y.q, .slice (some ⟨qb, ((k + 1) * 5), none⟩) (s0.prep.length - (k + 1)) (y.q - (k + 1))] 28))) (cond (D 15) (InsQ base b y (cut s0.prep k) (cut y.ps k) wc (V 15) (wi.alloc (.cells #[.slice (some ⟨qb, 0, none⟩) k y.q, .slice (some ⟨qb, ((k + 1) * 5), none⟩) (s0.prep.length - (k + 1)) (y.q - (k + 1))] 28))) (Below wc.heap.size wc (wi.alloc (.cells #[.slice (some ⟨qb, 0, none⟩) k y.q, .slice (some ⟨qb, ((k + 1) * 5), none⟩) (s0.prep.length - (k + 1)) (y.q - (k + 1))] 28)) ∧ (true = true → ∃ g2, (Value.slice (some ⟨wi.heap.size, 0, none⟩) 2 2) = .slice (some ⟨g2, 0, none⟩) 2 2 ∧ Cells (wi.alloc (.cells #[.slice (some ⟨qb, 0, none⟩) k y.q, .slice (some ⟨qb, ((k + 1) * 5), none⟩) (s0.prep.length - (k + 1)) (y.q - (k + 1))] 28)) g2 28 [.slice (some ⟨qb, 0, none⟩) k y.q, .slice (some ⟨qb, ((k + 1) * 5), none⟩) (s0.prep.length - (k + 1)) (y.q - (k + 1))]))); rw [hD15, hD18]; exact ⟨hI.1.trans (hal.mono hI.1.size), fun _ => ⟨_, rfl, cells_new wi _ _ _ rfl⟩⟩⟩
      ·have e43 : ρ (.tmp 43) = V 14 := hd 14 43; have hf := hE.func; have hD14 : D 14 = true := hT 1 14; have hD15 : D 15 = false := hDi; have hD18 : D 18 = false := hF 1 18; clear hT hF
       simp only [hD14, hD15, hD18, cond_false] at hI
       obtain ⟨g2, hv2, hc2⟩ := hI.2 trivial; have e43b := e43.trans hv2; clear e43
       refine Reg.Gives.call (f := 104) (args := #[.slice (some ⟨g2, 0, none⟩) 2 2]) (w' := wi) (by go_simp) ?_
       refine (cut_call (k := k) (HOwc.out.later hI.1) HOwc.out hI.1 HBS.out HQ.out.2.2.2 HQ.out.2.1 HQ.out.1 (by first | exact Or.inl HCC.out | exact Or.inr rfl) HQ.out.2.2.1 hc2).mono ?_
       rintro e w'' ⟨v', rfl, hins⟩
       refine ⟨_, rfl, fun x h => (by cases h), ?_⟩
       show cond (D 18) (Step base b s0 y wc { s0 with prep := cut s0.prep k } w'') (cond true (InsQ base b y (cut s0.prep k) (cut y.ps k) wc v' w'') (Below wc.heap.size wc w'' ∧ ((D 14) = true → ∃ g2, (V 14) = .slice (some ⟨g2, 0, none⟩) 2 2 ∧ Cells w'' g2 28 [.slice (some ⟨qb, 0, none⟩) k y.q, .slice (some ⟨qb, ((k + 1) * 5), none⟩) (s0.prep.length - (k + 1)) (y.q - (k + 1))])))
       rw [hD18]
       exact hins
      ·have e29 : ρ (.tmp 29) = .pointer (some ⟨b, 0, none⟩) := (hd 0 29).trans (hk 0 _ rfl); clear hT hF hk
       exact Reg.Gives.value (v := .pointer (some ⟨b, 0, none⟩)) (w' := wi) (by go_simp) ⟨fun x h => Option.some.inj h, hI⟩
      ·have e45 : ρ (.tmp 45) = .pointer (some ⟨b, 0, none⟩) := (hd 16 45).trans (hk 16 _ rfl); clear hT hF hk
       exact Reg.Gives.value (v := .pointer (some ⟨b, 5, none⟩)) (w' := wi) (by go_simp) ⟨fun x h => Option.some.inj h, hI⟩
      ·have e46 : ρ (.tmp 46) = .pointer (some ⟨b, 5, none⟩) := (hd 17 46).trans (hk 17 _ rfl); have e44 : ρ (.tmp 44) = V 15 := hd 15 44; have hD15 : D 15 = true := hT 1 15; have hD18 : D 18 = false := hDi; clear hT hF
       simp only [hD15, hD18, cond_true, cond_false] at hI
       obtain ⟨A9, n9, c9, f1, x0, x1⟩ := insQ_cells HOwc.out hI; have e44b := e44.trans f1; clear e44
       exact Reg.Gives.skip (w' := wi.setCell ⟨b, 5, none⟩ (V 15)) (by rw [f1]; clear f1; go_simp) ⟨fun x h => (by cases h), insQ_step HOwc.out hI⟩
     ·intro V wz hk hI
      simp only [Reg.putsO, List.foldl_cons, List.foldl_nil, Act.put, List.setIfInBounds_toArray, List.set_cons_succ, List.set_cons_zero]
      replace hI : cond true (Step base b s0 y wc { s0 with prep := cut s0.prep k } wz) (cond true (InsQ base b y (cut s0.prep k) (cut y.ps k) wc (V 15) wz) (Below wc.heap.size wc wz ∧ (true = true → ∃ g2, (V 14) = .slice (some ⟨g2, 0, none⟩) 2 2 ∧ Cells wz g2 28 [.slice (some ⟨qb, 0, none⟩) k y.q, .slice (some ⟨qb, ((k + 1) * 5), none⟩) (s0.prep.length - (k + 1)) (y.q - (k + 1))]))) := hI
      clear hk
      obtain ⟨y2, hO2, hN2, hG2⟩ := hI
      have HR2 := Lib.hid (cells_only HRwc.out hN2 fun e => by have := HTL.out _ e; omega)
      have HN2 := Lib.hid (And.intro hO2 (And.intro hN2 hG2))
      have HH2 := Lib.hid ((HHwc.out.next hN2 hG2).two)
      clear hO2 hN2 hG2 HI
      have hx := HR2.out
      unfold Rc.vals at hx
      have x0 := hx.cell (j := 0) rfl
      have x1 := hx.cell (j := 1) rfl
      have x2 := hx.cell (j := 2) rfl
      have x3 := hx.cell (j := 3) rfl
      have x4 := hx.cell (j := 4) rfl
      have x5 := hx.cell (j := 5) rfl
      have x6 := hx.cell (j := 6) rfl
      have x7 := hx.cell (j := 7) rfl
      have x8 := hx.cell (j := 8) rfl
      have x9 := hx.cell (j := 9) rfl
      have x10 := hx.cell (j := 10) rfl
      have x11 := hx.cell (j := 11) rfl
      have x12 := hx.cell (j := 12) rfl
      have x13 := hx.cell (j := 13) rfl
      have x14 := hx.cell (j := 14) rfl
      clear hx
      go_wp2_with fail
      clear x0 x1 x2 x3 x4 x5 x6 x7 x8 x9 x10 x11 x12 x13 x14
      refine (conclude_any { s0 with prep := cut s0.prep k } y2 r z base b wz HN2.out.1 HH2.out (HSMS.out.cut k) HRS.out).mono ?_
      rintro e w9 ⟨rfl, hst⟩
      have HN := Lib.hid hst
      clear hst
      go_wp2_with fail
      go_returns
      exact ⟨ret_int (by rw [HFX.out]), by rw [HFX.out]; exact Step.before HBwc.out (Step.next HOwc.out (Only.refl _ _) (fun _ e => Or.inl e) (Step.next HN2.out.1 HN2.out.2.1 HN2.out.2.2 HN.out))⟩
end Go.Proofs.YtalhbblmnahcdaaGreat.Led
