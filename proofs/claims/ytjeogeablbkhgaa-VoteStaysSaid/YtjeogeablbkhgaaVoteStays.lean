/-
  P19.2: What is decided stays so; it is committed only if each part voted yes, and none voted no ahead of that. Conditions: none.
-/
import Derived.Test.YtjeogeablbkhgaaVotOps
namespace Go.Proofs.Ytjeogeablbkhgaa.VoteStays
set_option maxRecDepth 100000
open Go.ChangeShapes Go.WideShapes Go.ChangeAt Go.RowKit Go.Deep Go.Proofs.Ytjeogeablbkhgaa.Mem Go.Proofs.Ytjeogeablbkhgaa.Item Go.Proofs.Ytjeogeablbkhgaa.Vot

theorem no_more {ps : List Sd} {k : Nat} {s : Sd} (h : ps.take (k + 1) = ps.take k ++ [s]) (no y : Bool) (n : Int) : noV no y n (ps.take (k + 1)) = (noV no y n (ps.take k) || (decide (s.node = n) && !y)) := by
  unfold noV hasN
  rw [h, List.any_append, List.any_cons, List.any_nil, Bool.or_false]
  cases no <;> cases y <;> simp
theorem yes_more {ps : List Sd} {k : Nat} {s : Sd} (h : ps.take (k + 1) = ps.take k ++ [s]) (Y : Int → Bool) (y : Bool) (n : Int) :
    (fun x => if x = s.node then (yesV Y y n (ps.take k) s.node || (decide (s.node = n) && y)) else yesV Y y n (ps.take k) x) = yesV Y y n (ps.take (k + 1)) := by
  funext x
  unfold yesV hasN
  rw [h, List.any_append, List.any_cons, List.any_nil, Bool.or_false]
  by_cases hx : x = s.node
  · subst hx
    rw [if_pos rfl]
    by_cases hn : s.node = n
    · simp [hn]
      cases Y n <;> cases y <;> simp
    · simp [hn]
  · rw [if_neg hx]
    by_cases hn : x = n
    · subst hn
      have : ¬ s.node = x := fun e => hx e.symm
      simp [this]
    · simp [hn]
set_option maxHeartbeats 8000000 in
theorem walk (t : Tid) (O : Option Addr) (ps : List Sd) (oc : Nat) (U : Option Addr) (os : List Opv) (uc : Nat) (w : World) (h : InParts w O ps) (hl : ps.length ≤ 140737488351232) (hu : Opvs w U os) (hul : os.length ≤ 140737488351232) :
    Calls Try.prog 4 #[.agg #[.int .i64 t.node, .int .i64 t.epoch, .int .i64 t.seq], .slice O ps.length oc, .slice U os.length uc] w fun e w' => e = .returned (.bool true) ∧ Below w.heap.size w w' := by
  obtain ⟨wa, hwa⟩ : ∃ W, W = w.alloc (.cells #[.int .i64 t.node, .int .i64 t.epoch, .int .i64 t.seq] 23) := ⟨_, rfl⟩
  have hba : Below w.heap.size w wa := by rw [hwa]; exact below_alloc _ _
  have hca : Cells wa w.heap.size 23 [.int .i64 t.node, .int .i64 t.epoch, .int .i64 t.seq] := by rw [hwa]; exact cells_new _ _ _ _ rfl
  have HAW := Lib.hid (awake_any wa)
  have HP := Lib.hid (fun W (hb : Below w.heap.size w W) => h.later hb)
  have HU := Lib.hid (fun W (hb : Below w.heap.size w W) => hu.later hb)
  have HUB : Hid (∀ o ∈ os, o.l ≠ [] → ∀ j, blk o.A = some j → j < w.heap.size) := Lib.hid fun o ho hne j e => irow_lt (hu.2 o ho).is hne e
  have HBA := Lib.hid hba
  have HCA0 := Lib.hid hca
  obtain ⟨n, hn⟩ : ∃ n, ps.length = n := ⟨_, rfl⟩
  obtain ⟨nu, hnu⟩ : ∃ n, os.length = n := ⟨_, rfl⟩
  rw [hn] at hl ⊢
  rw [hnu] at hul ⊢
  have HN := Lib.hid (And.intro hn hnu)
  clear h hu hba hca hn hnu
  go_enter Try.func4, Try.ntmps4
  go_upto_region 1 with (fail)
  rw [← hwa]
  clear hwa
  go_wp2_with fail
  refine HAW.out.mono ?_
  rintro e w1 ⟨rfl, hb1⟩
  have HB1 := Lib.hid (HBA.out.trans (hb1.mono HBA.out.size))
  have HC1 := Lib.hid (HCA0.out.later hb1)
  clear hb1 HAW HBA HCA0
  have hgr := great_any (cap := oc) (HP.out w1 HB1.out) (by rw [HN.out.1]; exact hl)
  rw [HN.out.1] at hgr
  obtain ⟨gr, hgre⟩ : ∃ b, greatP ps = b := ⟨_, rfl⟩
  rw [hgre] at hgr
  have HGR := Lib.hid hgr
  have HGE := Lib.hid hgre
  clear hgr hgre
  go_wp2_with fail
  refine HGR.out.mono ?_
  rintro e w2 ⟨rfl, hb2⟩
  have HB2 := Lib.hid (HB1.out.trans (hb2.mono HB1.out.size))
  have hc2 := HC1.out.later hb2
  have y0 := hc2.cell (j := 0) rfl
  have y1 := hc2.cell (j := 1) rfl
  have y2 := hc2.cell (j := 2) rfl
  clear hb2 hc2 HGR HB1 HC1
  cases gr with
  | true =>
    go_wp2_with fail
    go_returns
    exact ⟨rfl, HB2.out⟩
  | false =>
    obtain ⟨hn40, hpp, hfl⟩ := (HP.out w2 HB2.out).small HGE.out
    have HFL := Lib.hid hfl
    rw [HN.out.1] at hn40
    have HP40 : Hid (ps.length ≤ 40) := Lib.hid (by rw [HN.out.1]; exact hn40)
    have hnw := New_any (oc := oc) t hpp HP40.out hfl
    rw [HN.out.1] at hnw
    have HNW := Lib.hid hnw
    clear hpp hfl hnw
    by_cases h100 : 100 < nu
    · have e1 : decide ((nu : Int) > 100) = true := decide_eq_true (by omega)
      go_wp2_with fail
      go_returns
      exact ⟨rfl, HB2.out⟩
    have e1 : decide ((nu : Int) > 100) = false := decide_eq_false (by omega)
    go_wp2_with fail
    refine (show Calls Try.prog 9 #[.agg #[.int .i64 t.node, .int .i64 t.epoch, .int .i64 t.seq], .slice O n oc] _ _ from HNW.out).mono ?_
    rintro e w3 ⟨hb3, hbad, hok⟩
    have HB3 := Lib.hid (HB2.out.trans (hb3.mono HB2.out.size))
    obtain ⟨q, hq⟩ : ∃ q, (rightTid t && okParts ps) = q := ⟨_, rfl⟩
    have HQ := Lib.hid hq
    rw [hq] at hbad hok
    clear hq HNW y0 y1 y2
    cases q with
    | false =>
      have hb := hbad rfl
      subst hb
      clear hbad hok hb3
      go_wp2_with fail
      go_returns
      exact ⟨rfl, HB3.out⟩
    | true =>
      obtain ⟨gb, Ab, cb, lb, rfl, hatb, hlkb, _⟩ := hok rfl
      have HRG : Hid (∀ s ∈ ps, 0 ≤ s.node ∧ s.node ≤ 1000) := Lib.hid (ok_range (by have h1 := HQ.out; rw [Bool.and_eq_true] at h1; exact h1.2))
      obtain ⟨w4, hw4⟩ : ∃ W, W = w3.alloc (.map #[] 0) := ⟨_, rfl⟩
      have hb4 : Below w3.heap.size w3 w4 := by rw [hw4]; exact below_alloc _ _
      have hmb : MB w4 w3.heap.size fun _ => false := by rw [hw4]; exact mb_made w3
      have HAT := Lib.hid (hatb.later hb4)
      have HVS : Hid (VS (ps.map (·.node)) false lb false fun _ => false) := Lib.hid ⟨like_nodes hlkb, fun x hx => by
        have h2 : x.core ∈ ps.map Sd.core := by rw [← hlkb]; exact List.mem_map_of_mem hx
        obtain ⟨y, hy, e⟩ := List.mem_map.1 h2
        rw [← (core_inj e).2.2.1, (HFL.out y hy).1], fun e => by cases e⟩
      have HB4 := Lib.hid (HB3.out.trans (hb4.mono HB3.out.size))
      have HZ0 : Hid (n = 0 → stC false lb = 1) := Lib.hid fun e => by
        have h1 : lb = [] := List.eq_nil_of_length_eq_zero (by rw [hlkb.len, HN.out.1]; exact e)
        rw [h1]
        rfl
      have HFT : Hid (w.heap.size ≤ w2.heap.size ∧ w2.heap.size ≤ w3.heap.size ∧ ∀ k, foot gb Ab k → w2.heap.size ≤ k ∧ k < w3.heap.size) := Lib.hid ⟨HB2.out.size, hb3.size, hatb.foot_in⟩
      obtain ⟨mb, hmbe⟩ : ∃ m, w3.heap.size = m := ⟨_, rfl⟩
      have hmb2 := hmb
      rw [hmbe] at hmb2
      have HMB := Lib.hid hmb2
      have HMBE := Lib.hid hmbe
      have hmm := @run_makeMap Try.prog
      clear hbad hok hb3 hatb hlkb hb4 hmb hmb2 HB2 HB3
      go_upto_region 9 with (fail)
      rw [← hw4]
      clear hw4 hmm hmbe
      go_wp2_with fail
      go_loopw [10, 12, 13, 15, 16, 17, 19, 42] (fun no _ _ _ _ _ _ i wr => ∃ (k : Nat) (nob ab : Bool) (l : List Sd) (Y : Int → Bool), k ≤ nu ∧ i = .int .i64 (k : Int) ∧ no = .bool nob ∧ Hid (CAt w2.heap.size w3.heap.size wr gb Ab cb t ab l) ∧ Hid (MB wr mb Y) ∧ Hid (VS (ps.map (·.node)) ab l nob Y) ∧ Hid (Below w.heap.size w wr) ∧ Hid (n = 0 → stC ab l = 1)) (fun _ _ _ _ _ _ _ i _ => nu - (intOf i).toNat)
      case atStart => exact ⟨0, false, false, lb, _, Nat.zero_le _, rfl, rfl, HAT, HMB, HVS, HB4, HZ0⟩
      case round =>
        clear HAT HMB HVS HB4 HZ0
        obtain ⟨k, nob, ab, l, Y, hk, rfl, rfl, HAT, HMB, HVS, HB, HZ⟩ := hrel
        by_cases hlt : k < nu
        · have hkl : k < os.length := by rw [HN.out.2]; exact hlt
          obtain ⟨ug, uo, rfl, hr⟩ := (HU.out wr HB.out).at hkl
          have hM := List.getElem_mem hkl
          obtain ⟨o, ho⟩ : ∃ o, os[k] = o := ⟨_, rfl⟩
          rw [ho] at hr hM
          have HM := Lib.hid hM
          have hol := ((HU.out wr HB.out).2 o hM).len
          have x0 : wr.cell? ⟨ug, uo + k * 4, none⟩ = _ := hr 0 _ rfl
          have x1 := hr 1 _ rfl
          have x2 := hr 2 _ rfl
          have x3 := hr 3 _ rfl
          obtain ⟨hbb, hcb⟩ := copy_op wr o
          obtain ⟨m, hm⟩ : ∃ m, o.l.length = m := ⟨_, rfl⟩
          have HMM := Lib.hid hm
          unfold Opv.vals at hcb
          rw [hm] at x3 hbb hcb hol
          obtain ⟨wb, hwb⟩ : ∃ W, W = wr.alloc (.cells #[.int .i64 o.k, .int .i64 o.n, .bool o.y, .slice o.A m o.ac] 39) := ⟨_, rfl⟩
          rw [← hwb] at hbb hcb
          obtain ⟨xb, hxb⟩ : ∃ x, wr.heap.size = x := ⟨_, rfl⟩
          rw [hxb] at hcb
          have hxlo : w3.heap.size < xb := by rw [← hxb]; have := HMB.out.lt; have := HMBE.out; omega
          have hxmb : mb ≠ xb := by have := HMB.out.lt; omega
          have HXB : Hid (w3.heap.size < xb ∧ mb ≠ xb ∧ xb < wb.heap.size) := Lib.hid ⟨hxlo, hxmb, hcb.lt⟩
          have HBB := Lib.hid (HB.out.trans (hbb.mono HB.out.size))
          have HATB := Lib.hid (HAT.out.later hbb)
          have HMBB := Lib.hid (HMB.out.later hbb)
          have HCB := Lib.hid hcb
          have y3 := hcb.cell (j := 3) rfl
          clear hkl hr hM ho hbb hm hcb hxlo hxmb HAT HMB HB
          go_upto_region 12 with (fail)
          rw [← hwb]
          clear hwb x0 x1 x2 x3 hxb
          by_cases hgr : 40 < m
          · have e3 : decide ((m : Int) > 40) = true := decide_eq_true (by omega)
            go_wp2_with fail
            go_returns
            exact ⟨rfl, HBB.out⟩
          have e3 : decide ((m : Int) > 40) = false := decide_eq_false (by omega)
          have hst := State_any HATB.out
          obtain ⟨st, hste⟩ : ∃ s, stC ab l = s := ⟨_, rfl⟩
          rw [hste] at hst
          have HST := Lib.hid hst
          have HSTE := Lib.hid hste
          have HZS : Hid (n = 0 → st = 1) := Lib.hid fun e => by rw [← HSTE.out]; exact HZ.out e
          have HM40 : Hid (m ≤ 40) := Lib.hid (by omega)
          clear hgr hst hste
          go_wp2_with fail
          refine HST.out.mono ?_
          rintro e wv ⟨rfl, hbv⟩
          have HBV := Lib.hid (HBB.out.trans (hbv.mono HBB.out.size))
          have HATV := Lib.hid (HATB.out.later hbv)
          have HMBV := Lib.hid (HMBB.out.later hbv)
          have hcv := HCB.out.later hbv
          have HCV := Lib.hid hcv
          have HXV : Hid (xb < wv.heap.size) := Lib.hid (Nat.lt_of_lt_of_le HXB.out.2.2 hbv.size)
          have y0 := hcv.cell (j := 0) rfl
          clear hbv HST HBB HATB HMBB HCB hcv y3 e3
          go_upto_block 2 with fail
          go_cut [10, 15] from 54 to 111 (fun no _ wx => ∃ (nob' ab' : Bool) (l' : List Sd) (Y' : Int → Bool), no = .bool nob' ∧ Hid (CAt w2.heap.size w3.heap.size wx gb Ab cb t ab' l') ∧ Hid (MB wx mb Y') ∧ Hid (VS (ps.map (·.node)) ab' l' nob' Y') ∧ Hid (Below w.heap.size w wx) ∧ Hid (st ≠ 0 → stC ab' l' = st))
          case first =>
            by_cases k0 : o.k = 0
            · have f0 : (o.k == 0) = true := by simp [k0]
              have y1 := HCV.out.cell (j := 1) rfl
              have y2 := HCV.out.cell (j := 2) rfl
              have hv := Vote_any HATV.out o.n o.y
              rw [HSTE.out] at hv
              have HV := Lib.hid hv
              clear k0 hv
              go_wp2_with fail
              refine HV.out.mono ?_
              rintro e w6 ⟨rfl, hat6, ho6⟩
              have HAT6 := Lib.hid hat6
              have HC6 := Lib.hid (cells_only HCV.out ho6 fun e => by have := HFT.out.2.2 _ e; have := HXB.out; omega)
              have HMB6 := Lib.hid (HMBV.out.only ho6 fun e => by have := HFT.out.2.2 _ e; have := HMBE.out; omega)
              have HB6 := Lib.hid (HBV.out.trans (ho6.below HBV.out.size fun j e => by have := HFT.out.2.2 _ e; have := HFT.out; omega))
              have HX6 : Hid (xb < w6.heap.size) := Lib.hid (Nat.lt_of_lt_of_le HXV.out ho6.size)
              clear hat6 ho6 HV HATV HCV HMBV HBV HXV y0 y1 y2 f0
              by_cases hs0 : st = 0
              · have f1 : (st == 0) = true := by simp [hs0]
                have HV0 : Hid (VS (ps.map (·.node)) (voteA ab st o.n o.y l) (voteL st o.n o.y l) (noV nob o.y o.n ps) (yesV Y o.y o.n ps)) := Lib.hid (by have h1 := HVS.out.vote (by rw [HSTE.out]; exact hs0) o.n o.y; rw [HSTE.out] at h1; exact h1)
                have HS0 := Lib.hid hs0
                have hno0 : noV nob o.y o.n (ps.take 0) = nob := by unfold noV hasN; simp
                have hye0 : yesV Y o.y o.n (ps.take 0) = Y := by unfold yesV hasN; funext x; simp
                clear hs0
                go_wp2_with fail
                go_loopw [10, 15, 66] (fun no _ i wr => ∃ j : Nat, j ≤ n ∧ i = .int .i64 (j : Int) ∧ no = .bool (noV nob o.y o.n (ps.take j)) ∧ Hid (MB wr mb (yesV Y o.y o.n (ps.take j))) ∧ Hid (Only (fun i => i = mb) w6 wr)) (fun _ _ i _ => n - (intOf i).toNat)
                case atStart => exact ⟨0, Nat.zero_le _, rfl, by rw [hno0], Lib.hid (by rw [hye0]; exact HMB6.out), Lib.hid (Only.of_below (Below.refl _ _))⟩
                case round =>
                  clear hno0 hye0
                  obtain ⟨j, hj, rfl, rfl, HMJ, HOJ⟩ := hrel
                  have HBJ : Hid (Below w.heap.size w wr) := Lib.hid (HB6.out.trans (HOJ.out.below HB6.out.size fun i e => by rw [e]; have := HFT.out; have := HMBE.out; omega))
                  by_cases hjn : j < n
                  · have hjl : j < ps.length := by rw [HN.out.1]; exact hjn
                    obtain ⟨g, off, rfl, hr⟩ := (HP.out wr HBJ.out).at hjl
                    have hM := List.getElem_mem hjl
                    obtain ⟨s, hs⟩ : ∃ s, ps[j] = s := ⟨_, rfl⟩
                    have HTM := Lib.hid (take_more hjl hs)
                    rw [hs] at hr hM
                    have HRS := Lib.hid (HRG.out s hM)
                    have x0 : wr.cell? ⟨g, off + j * 2, none⟩ = _ := hr 0 _ rfl
                    have x1 := hr 1 _ rfl
                    obtain ⟨hbb, hcb⟩ := copy_part wr s
                    obtain ⟨ml, hml⟩ : ∃ m, s.its.length = m := ⟨_, rfl⟩
                    unfold pv at hcb
                    rw [hml] at x1 hbb hcb
                    obtain ⟨we, hwe⟩ : ∃ W, W = wr.alloc (.cells #[.int .i64 s.node, .slice s.A ml s.c] 55) := ⟨_, rfl⟩
                    rw [← hwe] at hbb hcb
                    have hce := (cells_only HC6.out HOJ.out fun e => HXB.out.2.1 e.symm).later hbb
                    have z0 := hcb.cell (j := 0) rfl
                    have y1 := hce.cell (j := 1) rfl
                    have y2 := hce.cell (j := 2) rfl
                    have HME := Lib.hid (HMJ.out.later hbb)
                    have HOE : Hid (Only (fun i => i = mb) w6 we) := Lib.hid (HOJ.out.trans (S' := fun _ => False) (Only.of_below hbb) fun _ _ e => e.elim)
                    have HNM := Lib.hid (no_more HTM.out nob o.y o.n)
                    have HYM := Lib.hid (yes_more HTM.out Y o.y o.n)
                    obtain ⟨Yj, hYj⟩ : ∃ Z, yesV Y o.y o.n (ps.take j) = Z := ⟨_, rfl⟩
                    obtain ⟨nj, hnj⟩ : ∃ z, noV nob o.y o.n (ps.take j) = z := ⟨_, rfl⟩
                    rw [hYj] at HME HYM
                    rw [hnj] at HNM ⊢
                    obtain ⟨q1, hq1⟩ : ∃ q, decide (s.node = o.n) = q := ⟨_, rfl⟩
                    rw [hq1] at HYM HNM
                    have f2 : (s.node == o.n) = q1 := by rw [← hq1]; by_cases h : s.node = o.n <;> simp [h]
                    obtain ⟨oy, hoy⟩ : ∃ y, o.y = y := ⟨_, rfl⟩
                    have HOY := Lib.hid hoy
                    rw [hoy] at y2 HYM HNM
                    obtain ⟨ym, hym⟩ : ∃ z, Yj s.node = z := ⟨_, rfl⟩
                    have hlk := HME.out.look HRS.out.1 HRS.out.2
                    obtain ⟨w7, hup, hm7, ho7⟩ := HME.out.store HRS.out.1 HRS.out.2 (ym || (q1 && oy))
                    rw [hym] at hlk HYM
                    have HM7 : Hid (MB w7 mb (yesV Y oy o.n (ps.take (j + 1)))) := Lib.hid (by rw [← HYM.out]; exact hm7)
                    have HO7 : Hid (Only (fun i => i = mb) w6 w7) := Lib.hid (HOE.out.trans ho7 fun _ _ e => e)
                    clear hjl hr hM hs hbb hcb hml hce hYj hnj hq1 hoy hym hm7 ho7 HMJ HOJ HBJ HME HOE HYM
                    go_upto_region 22 with (fail)
                    rw [← hwe]
                    clear hwe x0 x1
                    go_cut [10] from 70 to 82 (fun v wx => v = .bool (nj || (q1 && !oy)) ∧ wx = we)
                    case first =>
                      clear hlk hup
                      cases nj <;> cases q1 <;> cases oy
                      all_goals
                      · go_wp2_with fail
                        go_meet
                        exact ⟨rfl, rfl⟩
                    obtain ⟨rfl, hwr⟩ := hcut
                    rw [hwr]
                    clear hwr
                    apply_assumption
                    rw [← HNM.out]
                    cases ym <;> cases q1 <;> cases oy
                    all_goals
                    · first
                        | replace hup : (Instr.mapUpdate 53 (.map (some mb)) (.int .i64 s.node) (.bool true)).run Try.prog we = .ok () w7 := hup
                        | replace hup : (Instr.mapUpdate 53 (.map (some mb)) (.int .i64 s.node) (.bool false)).run Try.prog we = .ok () w7 := hup
                      go_wp2_with fail
                      go_roundw
                      case rel => exact ⟨j + 1, by omega, by go_num, by rw [HOY.out], Lib.hid (by rw [HOY.out]; exact HM7.out), HO7⟩
                      case measure => simp [intOf]; omega
                  · obtain rfl : j = n := by omega
                    have htk : ps.take j = ps := List.take_of_length_le (Nat.le_of_eq HN.out.1)
                    have HMF : Hid (MB wr mb (yesV Y o.y o.n ps)) := Lib.hid (by have h1 := HMJ.out; rwa [htk] at h1)
                    have HATF := Lib.hid (HAT6.out.only HOJ.out (fun e => by have := HAT6.out.low; have := HMBE.out; omega) (fun i e e2 => by have := HAT6.out.top i e; have := HMBE.out; omega) fun s hs i e e2 => by have := (HAT6.out.ifar s hs i e).1; have := HMBE.out; omega)
                    rw [htk]
                    clear htk HMJ HOJ
                    go_wp2_with fail
                    go_meet
                    exact ⟨_, _, _, _, rfl, HATF, HMF, HV0, HBJ, Lib.hid fun e => absurd HS0.out e⟩
              · have f1 : (st == 0) = false := by simpa using hs0
                have HSH : Hid (voteA ab st o.n o.y l = ab ∧ voteL st o.n o.y l = l) := Lib.hid (vote_shut hs0).2
                clear hs0
                go_wp2_with fail
                go_meet
                exact ⟨nob, ab, l, Y, rfl, Lib.hid (by have h1 := HAT6.out; rwa [HSH.out.1, HSH.out.2] at h1), HMB6, HVS, HB6, Lib.hid fun _ => HSTE.out⟩
            · have f0 : (o.k == 0) = false := by simpa using k0
              by_cases k1 : o.k = 1
              · have f1 : (o.k == 1) = true := by simp [k1]
                have HG := Lib.hid (GiveUp_any HATV.out)
                clear k0 k1
                go_wp2_with fail
                refine HG.out.mono ?_
                rintro e w6 ⟨rfl, hat6, ho6⟩
                have HAT6 := Lib.hid hat6
                have HMB6 := Lib.hid (HMBV.out.only ho6 fun e => by have := HFT.out.2.2 _ e; have := HMBE.out; omega)
                have HB6 := Lib.hid (HBV.out.trans (ho6.below HBV.out.size fun j e => by have := HFT.out.2.2 _ e; have := HFT.out; omega))
                clear hat6 ho6 HG HATV HMBV HBV y0
                go_wp2_with fail
                go_meet
                exact ⟨nob, _, l, Y, rfl, HAT6, HMB6, Lib.hid HVS.out.give, HB6, Lib.hid fun e => by rw [give_shut (by rw [HSTE.out]; exact e)]; exact HSTE.out⟩
              · have f1 : (o.k == 1) = false := by simpa using k1
                by_cases k2 : o.k = 2
                · have f2 : (o.k == 2) = true := by simp [k2]
                  have y3 := HCV.out.cell (j := 3) rfl
                  have ha := Ack_any (nc := o.ac) HATV.out ((HU.out wv HBV.out).2 o HM.out).is (by rw [HMM.out]; have := HM40.out; omega) (fun i e hne hf => by have := HUB.out o HM.out hne i e; have := HFT.out.2.2 i hf; have := HFT.out; omega)
                  rw [HMM.out] at ha
                  have HA := Lib.hid ha
                  clear k0 k1 k2 ha
                  go_wp2_with fail
                  refine HA.out.mono ?_
                  rintro e w6 ⟨rfl, hat6, ho6⟩
                  have HAT6 := Lib.hid hat6
                  have HMB6 := Lib.hid (HMBV.out.only ho6 fun e => by have := HFT.out.2.2 _ e; have := HMBE.out; omega)
                  have HB6 := Lib.hid (HBV.out.trans (ho6.below HBV.out.size fun j e => by have := HFT.out.2.2 _ e; have := HFT.out; omega))
                  clear hat6 ho6 HA HATV HMBV HBV y0 y3
                  go_wp2_with fail
                  go_meet
                  exact ⟨nob, ab, _, Y, rfl, HAT6, HMB6, Lib.hid (HVS.out.ack _ _), HB6, Lib.hid fun e => by rw [ackL_st]; exact HSTE.out⟩
                · have f2 : (o.k == 2) = false := by simpa using k2
                  clear k0 k1 k2
                  go_wp2_with fail
                  go_meet
                  exact ⟨nob, ab, l, Y, rfl, HATV, HMBV, HVS, HBV, Lib.hid fun _ => HSTE.out⟩
          obtain ⟨nob', ab', l', Y', rfl, HAT', HMB', HVS', HB', HSS⟩ := hcut
          clear HATV HMBV HBV HCV HVS y0 HSTE
          apply_assumption
          have hst := State_any HAT'.out
          obtain ⟨is, hise⟩ : ∃ s, stC ab' l' = s := ⟨_, rfl⟩
          rw [hise] at hst HSS
          have HST := Lib.hid hst
          have HISE := Lib.hid hise
          have HZN : Hid (n = 0 → stC ab' l' = 1) := Lib.hid fun e => by have h1 := HZS.out e; rw [hise, HSS.out (by rw [h1]; decide)]; exact h1
          clear hst hise
          go_wp2_with fail
          refine HST.out.mono ?_
          rintro e w8 ⟨rfl, hb8⟩
          have HB8 := Lib.hid (HB'.out.trans (hb8.mono HB'.out.size))
          have HAT8 := Lib.hid (HAT'.out.later hb8)
          have HMB8 := Lib.hid (HMB'.out.later hb8)
          clear hb8 HST HAT' HMB' HB'
          go_upto_region 30 with (fail)
          go_cut [120] from 114 to 119 (fun v wx => v = .bool false ∧ wx = w8)
          case first =>
            by_cases hs0 : st = 0
            · have f1 : (st != 0) = false := by simp [hs0]
              go_wp2_with fail
              go_meet
              exact ⟨rfl, rfl⟩
            · have f1 : (st != 0) = true := by simpa using hs0
              have hse := HSS.out hs0
              have f2 : (is != st) = false := by simp [hse]
              clear hse
              go_wp2_with fail
              go_meet
              exact ⟨rfl, rfl⟩
          obtain ⟨rfl, hwr⟩ := hcut
          rw [hwr]
          clear hwr
          apply_assumption
          go_wp2_with fail
          go_loopw [17, 19, 123] (fun a _ i wr => ∃ j : Nat, j ≤ n ∧ i = .int .i64 (j : Int) ∧ a = .bool ((ps.take j).all fun p => Y' p.node) ∧ Hid (Below w8.heap.size w8 wr)) (fun _ _ i _ => n - (intOf i).toNat)
          case atStart => exact ⟨0, Nat.zero_le _, rfl, rfl, Lib.hid (Below.refl _ _)⟩
          case round =>
            obtain ⟨j, hj, rfl, rfl, HBJ⟩ := hrel
            by_cases hjn : j < n
            · have hjl : j < ps.length := by rw [HN.out.1]; exact hjn
              obtain ⟨g, off, rfl, hr⟩ := (HP.out wr (HB8.out.trans (HBJ.out.mono HB8.out.size))).at hjl
              have hM := List.getElem_mem hjl
              obtain ⟨s, hs⟩ : ∃ s, ps[j] = s := ⟨_, rfl⟩
              have htm := take_more hjl hs
              rw [hs] at hr hM
              have hrs := HRG.out s hM
              have x0 : wr.cell? ⟨g, off + j * 2, none⟩ = _ := hr 0 _ rfl
              have x1 := hr 1 _ rfl
              obtain ⟨hbb, hcb⟩ := copy_part wr s
              obtain ⟨ml, hml⟩ : ∃ m, s.its.length = m := ⟨_, rfl⟩
              unfold pv at hcb
              rw [hml] at x1 hbb hcb
              obtain ⟨we, hwe⟩ : ∃ W, W = wr.alloc (.cells #[.int .i64 s.node, .slice s.A ml s.c] 55) := ⟨_, rfl⟩
              rw [← hwe] at hbb hcb
              have z0 := hcb.cell (j := 0) rfl
              have hbe := HBJ.out.trans (hbb.mono HBJ.out.size)
              have hlk := (HMB8.out.later hbe).look hrs.1 hrs.2
              have HBE := Lib.hid hbe
              have HAL : Hid (((ps.take (j + 1)).all fun p => Y' p.node) = (((ps.take j).all fun p => Y' p.node) && Y' s.node)) := Lib.hid (by rw [htm, List.all_append]; simp)
              obtain ⟨aj, haj⟩ : ∃ z, ((ps.take j).all fun p => Y' p.node) = z := ⟨_, rfl⟩
              obtain ⟨ym, hym⟩ : ∃ z, Y' s.node = z := ⟨_, rfl⟩
              rw [haj, hym] at HAL
              rw [hym] at hlk
              rw [haj]
              clear hjl hr hM hs htm hrs hbb hcb hml hbe haj hym HBJ
              go_upto_region 36 with (fail)
              rw [← hwe]
              clear hwe x0 x1
              cases aj with
              | true =>
                go_wp2_with fail
                go_roundw
                case rel => exact ⟨j + 1, by omega, by go_num, by rw [HAL.out]; rfl, HBE⟩
                case measure => simp [intOf]; omega
              | false =>
                go_wp2_with fail
                go_roundw
                case rel => exact ⟨j + 1, by omega, by go_num, by rw [HAL.out]; rfl, HBE⟩
                case measure => simp [intOf]; omega
            · obtain rfl : j = n := by omega
              have hal : ((ps.take j).all fun p => Y' p.node) = allY l' := by rw [List.take_of_length_le (Nat.le_of_eq HN.out.1)]; exact HVS'.out.all
              have HATJ := Lib.hid (HAT8.out.later HBJ.out)
              have HMBJ := Lib.hid (HMB8.out.later HBJ.out)
              have HBF := Lib.hid (HB8.out.trans (HBJ.out.mono HB8.out.size))
              have HSI : Hid ((is = 0 ∧ nob' = false ∧ allY l' = false) ∨ (is = 1 ∧ nob' = false ∧ allY l' = true) ∨ is = 2) := Lib.hid (by
                rw [← HISE.out]
                cases hab : ab' with
                | true => exact Or.inr (Or.inr rfl)
                | false =>
                  have hno : nob' = false := by
                    cases hn : nob' with
                    | false => rfl
                    | true => have := HVS'.out.no hn; rw [hab] at this; cases this
                  cases hall : allY l' with
                  | true => exact Or.inr (Or.inl ⟨by unfold stC; rw [hall]; rfl, hno, rfl⟩)
                  | false => exact Or.inl ⟨by unfold stC; rw [hall]; rfl, hno, rfl⟩)
              rw [hal]
              clear hal HAT8 HMB8 HB8 HBJ HSS
              obtain ⟨al, hale⟩ : ∃ z, allY l' = z := ⟨_, rfl⟩
              rw [hale] at HSI ⊢
              clear hale
              rcases HSI.out with ⟨rfl, rfl, rfl⟩ | ⟨rfl, rfl, rfl⟩ | rfl
              · go_wp2_with fail
                go_roundw
                case rel => exact ⟨k + 1, false, ab', l', Y', by omega, by go_num, rfl, HATJ, HMBJ, HVS', HBF, HZN⟩
                case measure => simp [intOf]; omega
              · go_wp2_with fail
                go_roundw
                case rel => exact ⟨k + 1, false, ab', l', Y', by omega, by go_num, rfl, HATJ, HMBJ, HVS', HBF, HZN⟩
                case measure => simp [intOf]; omega
              · have hw := Waits_any HATJ.out
                have hz : waitsL 2 l' = [] := by unfold waitsL; rw [filter_none fun x => by unfold waitB; rfl]; rfl
                rw [HISE.out, hz] at hw
                have HW := Lib.hid hw
                clear hw hz
                go_wp2_with fail
                refine HW.out.mono ?_
                rintro e w9 ⟨⟨V, vn, vc, rfl, hvn, _⟩, hb9⟩
                have hvn0 : vn = 0 := hvn
                subst hvn0
                have HAT9 := Lib.hid (HATJ.out.later hb9)
                have HMB9 := Lib.hid (HMBJ.out.later hb9)
                have HB9 := Lib.hid (HBF.out.trans (hb9.mono HBF.out.size))
                clear hb9 hvn HW HATJ HMBJ HBF
                go_wp2_with fail
                go_roundw
                case rel => exact ⟨k + 1, nob', ab', l', Y', by omega, by go_num, rfl, HAT9, HMB9, HVS', HB9, HZN⟩
                case measure => simp [intOf]; omega
        · obtain rfl : k = nu := by omega
          by_cases hn0 : 0 < n
          · have f1 : decide ((n : Int) > 0) = true := decide_eq_true (by omega)
            go_wp2_with fail
            go_returns
            exact ⟨rfl, HB.out⟩
          · have f1 : decide ((n : Int) > 0) = false := decide_eq_false (by omega)
            have hps : ps = [] := List.eq_nil_of_length_eq_zero (by rw [HN.out.1]; omega)
            have hll : l = [] := by
              have h1 := HVS.out.nodes
              rw [hps] at h1
              exact List.map_eq_nil_iff.1 h1
            have h1 := HZ.out (by omega)
            have hst := State_any HAT.out
            rw [h1] at hst
            have HST := Lib.hid hst
            have HLL := Lib.hid hll
            have HZ1 := Lib.hid h1
            clear hps hll hst h1
            go_wp2_with fail
            refine HST.out.mono ?_
            rintro e w6 ⟨rfl, hb6⟩
            have HB6 := Lib.hid (HB.out.trans (hb6.mono HB.out.size))
            have hov := Over_any (HAT.out.later hb6)
            rw [HZ1.out, HLL.out] at hov
            have HOV : Hid (Calls Try.prog 20 #[.pointer (some ⟨gb, 0, none⟩)] w6 fun e w' => e = .returned (.bool true) ∧ Below w6.heap.size w6 w') := Lib.hid hov
            clear hb6 HST hov
            go_wp2_with fail
            refine HOV.out.mono ?_
            rintro e w7 ⟨rfl, hb7⟩
            have HB7 := Lib.hid (HB6.out.trans (hb7.mono HB6.out.size))
            clear hb7 HOV
            go_wp2_with fail
            go_returns
            exact ⟨rfl, HB7.out⟩
theorem opened {H : Type} {enc : TypeId × Value → H} {W : World} {base : Nat} {gs : List (DataW H)} (v0 : Value) (d0 : DataW H) (p0 : List MemPlace) (v1 : Value) (d1 : DataW H) (p1 : List MemPlace) (v2 : Value) (d2 : DataW H) (p2 : List MemPlace)
    (o0 : Value.okWide Try.prog W .any base 23 v0) (t0 : DataW.Trod enc Try.prog W 0 (fun _ => true) true 23 v0 d0 p0)
    (o1 : Value.okWide Try.prog W .any base 24 v1) (t1 : DataW.Trod enc Try.prog W 0 (fun _ => true) true 24 v1 d1 p1)
    (o2 : Value.okWide Try.prog W .any base 25 v2) (t2 : DataW.Trod enc Try.prog W 0 (fun _ => true) true 25 v2 d2 p2)
    (hsz : (DataW.weightsEach Try.prog ([23, 24, 25] ++ []) ([d0, d1, d2] ++ gs)).all (· ≤ reachBytes) = true) :
    Calls Try.prog 4 #[v0, v1, v2] W fun e W' => e = .returned (.bool true) ∧ Below W.heap.size W W' := by
  obtain ⟨t, rfl⟩ := arg_tid o0 t0 (Base.small_of hsz (j := 0) rfl rfl)
  obtain ⟨a0, len, cap, rfl⟩ := okWide_slice Try.underlying24 o1
  obtain ⟨O, ps, oc, e, h3, h4⟩ := came_parts (came_of t1 (Base.small_of hsz (j := 1) rfl rfl) (by simp [Value.cells]))
  rw [e]
  obtain ⟨a1, len1, cap1, rfl⟩ := okWide_slice Try.underlying25 o2
  obtain ⟨U, os, uc, e2, h5, h6⟩ := came_ops (came_of t2 (Base.small_of hsz (j := 2) rfl rfl) (by simp [Value.cells]))
  rw [e2]
  exact walk t O ps oc U os uc W h3 h4 h5 h6

theorem contract (H : Type) (enc : TypeId × Value → H) (W : World) (base : Nat) (args : Array Value) (ds gs : List (DataW H)) (before : List MemPlace)
    (hval : ∀ (j : Nat) t v, Try.f4.params[j]? = some t → args[j]? = some v → Value.okWide Try.prog W .any base t v)
    (hW : DataW.Whole enc Try.prog Try.f4.params.toList Rows.voteStaysSpec.vars false W args.toList ds gs before)
    (hsz : (DataW.weightsEach Try.prog (Try.f4.params.toList ++ []) (ds ++ gs)).all (· ≤ reachBytes) = true) :
    Calls Try.prog 4 args W fun e W' => ∃ v, e = .returned v ∧ Rows.voteStaysSpec.post enc Try.prog Try.f4 false true false false W args v W' := by
  have hW0 := hW
  obtain ⟨p, q, hA0, hV, rfl, _, _⟩ := hW
  have hA : DataW.TrodAll enc Try.prog W 0 (fun _ => true) true Try.f4.params.toList args.toList ds p := hA0
  rw [Try.params4] at hA hval hsz
  obtain ⟨v0, vs0, d0, ds0, p0, q0, hargs, rfl, rfl, h0, r0⟩ := trodAll_cons hA
  obtain ⟨v1, vs1, d1, ds1, p1, q1, rfl, rfl, rfl, h1, r1⟩ := trodAll_cons r0
  obtain ⟨v2, vs2, d2, ds2, p2, q2, rfl, rfl, rfl, h2, r2⟩ := trodAll_cons r1
  obtain ⟨rfl, rfl, rfl⟩ := trodAll_nil r2
  obtain rfl : args = #[v0, v1, v2] := by cases args; simp_all
  refine (opened v0 d0 p0 v1 d1 p1 v2 d2 p2 (hval 0 23 v0 rfl rfl) h0 (hval 1 24 v1 rfl rfl) h1 (hval 2 25 v2 rfl rfl) h2 hsz).mono fun e W' ⟨he, hb⟩ => ⟨_, he, ?_⟩
  exact Base.law_post (tb := 4) Base.laidOut (by kernel_rfl) rfl Try.underlying4 rfl (fun l hl => by
    rw [Try.params4] at hl
    match l, hl with
    | [_, _, _], _ => rfl) (by rw [Try.params4]; rfl) hW0 hb

theorem laid_met (os : Os) : laidMet Try.prog Rows.voteStaysRow.laid ((Base.plainWorld os).forCall (fun _ _ => 0) ⟨#[], #[.agg #[.int .i64 0, .int .i64 0, .int .i64 0], .slice none 0 0, .slice none 0 0], []⟩).memory := laidMet_nil _ _
theorem reads (os : Os) {H : Type} (enc : TypeId × Value → H) : ∃ places, DataW.whole enc Try.prog ((Base.plainWorld os).forCall (fun _ _ => 0) ⟨#[], #[.agg #[.int .i64 0, .int .i64 0, .int .i64 0], .slice none 0 0, .slice none 0 0], []⟩).memory Try.f4.params.toList Rows.voteStaysSpec.vars false (#[.agg #[.int .i64 0, .int .i64 0, .int .i64 0], .slice none 0 0, .slice none 0 0] : Array Value).toList 8 = some ([.agg [.lit (.int .i64 0), .lit (.int .i64 0), .lit (.int .i64 0)], .nil, .nil], [], places) :=
  ⟨[], by kernel_rfl⟩

set_option maxRecDepth 100000 in
theorem lifted (os : Os) (started : os.Started) (H : Type) (enc : TypeId × Value → H) (F : Stop.Interp) :
    ReturnsInHanded {} Try.checked os 4 .any ((OpenSpec.ofChange Rows.voteStaysSpec).preRow enc Try.prog Try.f4 Rows.voteStaysRow.domain false Rows.voteStaysRow.laid) (((OpenSpec.ofChange Rows.voteStaysSpec).at F).post enc Try.prog Try.f4 false true false false) := by
  obtain ⟨places, hx⟩ := reads os enc
  refine returnsInHanded_of_row (C := Try.checked) (s := OpenSpec.ofChange Rows.voteStaysSpec) Base.own started (by kernel_rfl) Try.func4
    (witness_row_at (enc := enc) (C := Try.checked) false (Base.plainWorld os) #[.agg #[.int .i64 0, .int .i64 0, .int .i64 0], .slice none 0 0, .slice none 0 0] rfl (by kernel_rfl) (by kernel_rfl) (by kernel_rfl)
      (OpenSpec.preRow_of_cond 8 hx (by kernel_rfl) (fun k hk => by cases hk) (by kernel_rfl) (laid_met os))) ?_
  intro W base args ds gs before hval hW _ _ hsz _ _ _
  exact contract H enc W base args ds gs before hval hW hsz

theorem said : Rows.VoteStaysSaid :=
  OpenClaim.holds_of_cond 4 Try.f4 rfl rfl rfl rfl rfl rfl rfl ⟨rfl, rfl, rfl, rfl, rfl⟩ rfl rfl rfl rfl rfl (by kernel_rfl) Try.func4 (by kernel_rfl)
    (of_decide_eq_true (by kernel_rfl)) (by unfold Func.isWrapper; rw [if_neg (of_decide_eq_false (by kernel_rfl))]; exact ⟨rfl, rfl⟩)
    (fun os started H enc _ F => by rw [OpenClaim.pre_eq_preRow]; exact lifted os started H enc F)
#print axioms said
end Go.Proofs.Ytjeogeablbkhgaa.VoteStays
