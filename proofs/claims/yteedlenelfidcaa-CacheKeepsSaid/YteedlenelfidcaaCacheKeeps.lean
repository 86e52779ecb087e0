/-
  P17.2: No entry's version falls, as long as it is there; there are never more than there is room for; the one that was put last is there. Conditions: none.
-/
import Derived.Test.YteedlenelfidcaaCacK
namespace Go.Proofs.Yteedlenelfidcaa.CacheKeeps
set_option maxRecDepth 100000
open Go.ChangeShapes Go.WideShapes Go.ChangeAt Go.RowKit Go.Deep Go.Proofs.Yteedlenelfidcaa.Mem Go.Proofs.Yteedlenelfidcaa.Cac

theorem en_nec (p q : En) (w : World) : (binOp .neq 38 p.v q.v).run Try.prog w = .ok (.bool (!decide (p = q))) w := by
  have h := en_cmp 38 (by kernel_rfl) (by kernel_rfl) ⟨_, _, _, _, rfl, rfl, rfl, rfl, rfl, rfl, rfl, rfl, rfl, by decide, by decide, by decide, by decide⟩ p q w
  show (binOp .neq 38 (.agg _) (.agg _)).run Try.prog w = _
  rw [run_neq_struct]
  unfold En.v at h
  rw [h]
  rfl
set_option maxHeartbeats 4000000 in
theorem walk (r : Nat) (A : Option Addr) (os : List Opk) (cap : Nat) (w : World) (hr : r ≤ 255) (h : Opks w A os) (hl : os.length ≤ 140737488351232) :
    Calls Try.prog 4 #[.int .u8 (r : Int), .slice A os.length cap] w fun e w' => e = .returned (.bool true) ∧ Below w.heap.size w w' := by
  have HA := Lib.hid (awake_any w)
  have HH := Lib.hid h
  have HGR := Lib.hid (fun (wi : World) (hb : Below w.heap.size w wi) => great_any A os cap wi (h.later hb) hl)
  obtain ⟨N, hN⟩ : ∃ n, os.length = n := ⟨_, rfl⟩
  have HN := Lib.hid hN
  obtain ⟨gr, hgr⟩ : ∃ b, greatN os = b := ⟨_, rfl⟩
  have HG := Lib.hid hgr
  rw [hN] at hl HGR ⊢
  rw [hgr] at HGR
  obtain ⟨n, hn⟩ : ∃ n : Nat, n = 1 + r % 16 := ⟨_, rfl⟩
  have hn1 : 1 ≤ n := by omega
  have hn2 : n ≤ 16 := by omega
  have hw1 : IntKind.i64.wrap (r : Int) = (r : Int) := IntWalk.i64_in _ (by omega)
  have hw2 : IntKind.i64.wrap (1 + (r : Int) % 16) = (n : Int) := by rw [IntWalk.i64_in _ (by omega)]; omega
  clear h hN hn hgr
  cases gr with
  | true =>
    go_enter Try.func4, Try.ntmps4
    go_wp2_with fail
    refine HA.out.mono ?_
    rintro e w1 ⟨rfl, hb1⟩
    have HB1 := Lib.hid hb1
    clear hb1
    go_wp2_with fail
    refine (HGR.out w1 HB1.out).mono ?_
    rintro e w2 ⟨rfl, hb2⟩
    have HB2 := Lib.hid (HB1.out.trans (hb2.mono HB1.out.size))
    clear hb2
    go_wp2_with fail
    go_returns
    exact ⟨rfl, HB2.out⟩
  | false =>
    have HSM := Lib.hid (great_no HG.out)
    go_enter Try.func4, Try.ntmps4
    go_wp2_with fail
    refine HA.out.mono ?_
    rintro e w0 ⟨rfl, hb0⟩
    have HB0 := Lib.hid hb0
    clear hb0 HA
    go_wp2_with fail
    refine (HGR.out w0 HB0.out).mono ?_
    rintro e w1 ⟨rfl, hb1⟩
    have HB1 := Lib.hid (HB0.out.trans (hb1.mono HB0.out.size))
    clear hb1 HGR HB0
    have HNW := Lib.hid (New_any w1 (n : Int) (by omega) (by omega))
    obtain ⟨B, hB⟩ : ∃ B, w1.heap.size = B := ⟨_, rfl⟩
    have HBE := Lib.hid hB
    rw [hB] at HNW
    clear hB
    go_wp2_with fail
    refine HNW.out.mono ?_
    rintro e w2 ⟨rfl, h2, hb2⟩
    have HC2 : Hid (∃ A' c', CcAt B w2 B ⟨(n : Int), []⟩ A' c') := Lib.hid ⟨none, 0, h2⟩
    have HK2 : Hid (Cok ⟨(n : Int), []⟩ ∧ (⟨(n : Int), []⟩ : Cc).room = n) := Lib.hid ⟨Cok.new (by omega) (by omega), rfl⟩
    have HB2 := Lib.hid hb2
    have HS2 : Hid (B ≤ w2.heap.size) := Lib.hid (Nat.le_trans (Nat.le_of_eq HBE.out.symm) hb2.size)
    have HOS : Hid (∀ k, k < N → ∃ b off o, A = some ⟨b, off, none⟩ ∧ os[k]? = some o ∧ o.l.length ≤ 40 ∧ o.cs.length ≤ 40 ∧ ∀ wi, Below B w1 wi → wi.rangeAt b (off + k * 5) o.vals ∧ o.Ok wi) := Lib.hid fun k hk => by
      have hlt : k < os.length := by rw [HN.out]; exact hk
      obtain ⟨b, off, e1, e2, e3⟩ := (HH.out.later HB1.out).at hlt
      have h4 := HSM.out.2 _ (List.getElem_mem hlt)
      refine ⟨b, off, os[k], e1, List.getElem?_eq_getElem hlt, h4.1, h4.2, fun wi hb => ?_⟩
      have hb' : Below w1.heap.size w1 wi := by rw [HBE.out]; exact hb
      exact ⟨range_later e2 hb', e3.later hb'⟩
    have HOB : Hid (∀ (k : Nat) (o : Opk), os[k]? = some o → (∀ i, o.l ≠ [] → blk o.A = some i → i < B) ∧ ∀ i, o.cs ≠ [] → blk o.C = some i → i < B) := Lib.hid fun k o ho => by
      obtain ⟨hlt, e⟩ := List.getElem?_eq_some_iff.1 ho
      have h3 := (HH.out.later HB1.out).2 _ (List.getElem_mem hlt)
      rw [e] at h3
      rw [← HBE.out]
      refine ⟨fun i hne hb => sl_lt h3.es (fun v hv => ?_) (fun q => hne (List.map_eq_nil_iff.1 q)) hb, fun i hne hb => sl_lt h3.is (fun v hv => ?_) (fun q => hne (List.map_eq_nil_iff.1 q)) hb⟩
      · obtain ⟨x, _, rfl⟩ := List.mem_map.1 hv
        exact fun q => by cases q
      · obtain ⟨x, _, rfl⟩ := List.mem_map.1 hv
        exact fun q => by cases q
    clear h2 hb2 HNW hn1 hn2
    go_wp2_with fail
    go_loopw [39] (fun i wr => ∃ (k : Nat) (R : Cc), k ≤ N ∧ i = .int .i64 (k : Int) ∧ Hid (Cok R ∧ R.room = n) ∧ Hid (∃ A' c', CcAt B wr B R A' c') ∧ Hid (Below B w1 wr) ∧ Hid (B ≤ wr.heap.size)) (fun i _ => N - (intOf i).toNat)
    case atStart => exact ⟨0, _, Nat.zero_le _, rfl, Lib.hid ⟨HK2.out.1, rfl⟩, HC2, HB2, HS2⟩
    case round =>
      clear HK2 HC2 HB2 HS2
      obtain ⟨k, R, hk, rfl, HK, HC, HB, HS⟩ := hrel
      by_cases hkn : k < N
      · have hos := HOS.out k hkn
        obtain ⟨b, off, o, rfl, hok, hl40, hc40, hin⟩ := hos
        have HIN := Lib.hid hin
        have hrg := (hin wr HB.out).1
        have HOBL := Lib.hid (HOB.out k o hok)
        obtain ⟨ok, oc, ov, oA, oac, ol, oC, occ, ocs⟩ := o
        dsimp only at hl40 hc40
        obtain ⟨lq, hlq⟩ : ∃ q, ol.length = q := ⟨_, rfl⟩
        obtain ⟨cq, hcq⟩ : ∃ q, ocs.length = q := ⟨_, rfl⟩
        have HLQ := Lib.hid hlq
        have HCQ := Lib.hid hcq
        unfold Opk.vals at hrg
        dsimp only at hrg
        rw [hlq] at hrg hl40
        rw [hcq] at hrg hc40
        have x0 := hrg 0 _ rfl
        rw [Nat.add_zero] at x0
        have x1 := hrg 1 _ rfl
        have x2 := hrg 2 _ rfl
        have x3 := hrg 3 _ rfl
        have x4 := hrg 4 _ rfl
        obtain ⟨we, hwe⟩ : ∃ W, W = wr.alloc (.cells #[.int .i64 ok, .int .i64 oc, .int .i64 ov, .slice oA lq oac, .slice oC cq occ] 36) := ⟨_, rfl⟩
        have hbe : Below wr.heap.size wr we := by rw [hwe]; exact below_alloc _ _
        have hce : Cells we wr.heap.size 36 [.int .i64 ok, .int .i64 oc, .int .i64 ov, .slice oA lq oac, .slice oC cq occ] := by rw [hwe]; exact cells_new _ _ _ _ rfl
        obtain ⟨gb, hgb⟩ : ∃ gb, wr.heap.size = gb := ⟨_, rfl⟩
        have hC := HC.out
        obtain ⟨A', c', hc0⟩ := hC
        have hc1 := hc0.later hbe
        have HFG : Hid (∀ j, cfoot B A' j → j ≠ gb) := Lib.hid fun j e e2 => by have := (hc0.lt e).2; omega
        rw [hgb] at hce
        have HCE := Lib.hid hce
        have HC1 := Lib.hid hc1
        have HBE1 := Lib.hid (HB.out.trans (hbe.mono HS.out))
        have HSE := Lib.hid (Nat.le_trans HS.out hbe.size)
        have HAL := Lib.hid (All_any hc1)
        obtain ⟨m, hm⟩ : ∃ m, R.l.length = m := ⟨_, rfl⟩
        have HM := Lib.hid hm
        have hm16 : m ≤ 16 := by rw [← hm]; exact HK.out.1.l16
        rw [hm] at HAL
        clear hin hrg hok hlq hcq hbe hce hc0 hc1 hm HC HB HS
        go_upto_region 12 with (fail)
        rw [← hwe]
        clear hwe x0 x1 x2 x3 x4
        try rw [hgb]
        clear hgb
        go_wp2_with fail
        refine HAL.out.mono ?_
        rintro e wv ⟨AV, cV, rfl, hrow, hbv⟩
        have hcv := HC1.out.later hbv
        have HST0 : Hid (CcStep B B A' wv R wv) := Lib.hid (CxStep.same hcv (Below.refl _ _))
        have HBX : Hid (∀ wx, Only (cfoot B A') wv wx → Cells wx gb 36 [.int .i64 ok, .int .i64 oc, .int .i64 ov, .slice oA lq oac, .slice oC cq occ]) := Lib.hid fun wx ho => cells_only (HCE.out.later hbv) ho fun e => HFG.out gb e rfl
        have HROW : Hid (∀ wx, Only (cfoot B A') wv wx → Sl wx AV 4 (R.l.map En.vals)) := Lib.hid fun wx ho => by
          have h1 := (OwnG.sl fit_es hrow).2
          refine sl_only h1 ho fun j e e2 => ?_
          have h3 := (hrow.lt j (by rw [own_blk]; exact e)).1
          have := (HC1.out.lt e2).2
          omega
        have HLOW : Hid (∀ wx, Only (cfoot B A') wv wx → Below B w1 wx ∧ B ≤ wx.heap.size) := Lib.hid fun wx ho => ⟨(HBE1.out.trans (hbv.mono HSE.out)).trans (ho.below (Nat.le_trans HSE.out hbv.size) fun i e => (HC1.out.lt e).1), Nat.le_trans (Nat.le_trans HSE.out hbv.size) ho.size⟩
        have y0 := (HBX.out wv (Only.of_below (Below.refl _ _))).cell (j := 0) rfl
        have HFB : Hid (∀ j, j < B → ¬ cfoot B A' j) := Lib.hid fun j hj e => by have := (HC1.out.lt e).1; omega
        clear hrow hbv hcv HCE HBE1 HSE HAL
        go_upto_block 2 with fail
        clear y0
        go_cut [12, 13, 14, 15, 16, 17] from 47 to 124 (fun _ _ _ _ _ _ wx => ∃ R' : Cc, Hid (Cok R' ∧ R'.room = n) ∧ Hid (CcStep B B A' wv R' wx) ∧ Hid (ok = 0 → lq ≤ 1 → Keep R R') ∧ Hid (ok ≠ 0 → Keep R R'))
        case first =>
          by_cases k0 : ok = 0
          · subst k0
            have y3 := (HBX.out wv (Only.of_below (Below.refl _ _))).cell (j := 3) rfl
            go_wp2_with fail
            go_loopw [12, 13, 14, 15, 52] (fun _ _ _ _ i wr => ∃ j : Nat, j ≤ lq ∧ i = .int .i64 (j : Int) ∧ Hid (CcStep B B A' wv (putsE R (ol.take j)).2 wr)) (fun _ _ _ _ i _ => lq - (intOf i).toNat)
            case atStart => exact ⟨0, Nat.zero_le _, rfl, HST0⟩
            case round =>
              clear y3
              obtain ⟨j, hj, rfl, HST⟩ := hrel
              by_cases hlt : j < lq
              · have hjl : j < ol.length := by rw [HLQ.out]; exact hlt
                obtain ⟨e, he⟩ : ∃ e, ol[j] = e := ⟨_, rfl⟩
                have htk : ol.take (j + 1) = ol.take j ++ [e] := by rw [List.take_succ_eq_append_getElem hjl, he]
                have hmo := putsE_more e (ol.take j) R
                rw [← htk] at hmo
                have hok := Cok.puts (ol.take j) HK.out.1
                obtain ⟨q, hq⟩ : ∃ q, (putsE R (ol.take j)).2 = q := ⟨_, rfl⟩
                rw [hq] at HST hmo hok
                have hnx : (putsE R (ol.take (j + 1))).2 = (putE q e).2 := by rw [hmo]
                have HNX := Lib.hid hnx
                have hS := HST.out
                obtain ⟨A1, c1, k1, k2, k3⟩ := hS
                have hlow := HLOW.out wr k2
                obtain ⟨g, off2, rfl, hr2⟩ := (HIN.out wr hlow.1).2.es j (by rw [List.length_map]; exact hjl)
                dsimp only at hr2
                rw [List.getElem_map, he] at hr2
                have x0 := hr2 0 _ rfl
                rw [Nat.add_zero] at x0
                have x1 := hr2 1 _ rfl
                have x2 := hr2 2 _ rfl
                have x3 := hr2 3 _ rfl
                obtain ⟨wb, hwb⟩ : ∃ W, W = wr.alloc (.cells #[.int .i64 e.cell, .int .i64 e.ver, .int .i64 e.val, .int .i64 e.frm] 38) := ⟨_, rfl⟩
                have hbb : Below wr.heap.size wr wb := by rw [hwb]; exact below_alloc _ _
                have hcb : Cells wb wr.heap.size 38 e.vals := by rw [hwb]; exact cells_new _ _ _ _ rfl
                obtain ⟨bx, hbx⟩ : ∃ bx, wr.heap.size = bx := ⟨_, rfl⟩
                have HFX : Hid (∀ i, cfoot B A1 i → i ≠ bx) := Lib.hid fun i ei e2 => by have := (k1.lt ei).2; omega
                have kb := k1.later hbb
                have HP := Lib.hid (PutNew_any [e] #[.int .i64 e.cell, .int .i64 e.ver, .int .i64 e.val, .int .i64 e.frm] (by simp [En.vals]) kb (Nat.le_trans hlow.2 hbb.size) hok (by simp))
                have HQS : Hid (∀ w3, CcStep B B A1 wb (putsE q [e]).2 w3 → CcStep B B A' wv (putE q e).2 w3) := Lib.hid fun w3 h => CxStep.next k2 k3 (CxStep.before hbb h)
                have y0 := hcb.cell (j := 0) rfl
                have y1 := hcb.cell (j := 1) rfl
                have y2 := hcb.cell (j := 2) rfl
                have y3 := hcb.cell (j := 3) rfl
                have HCB := Lib.hid hcb
                obtain ⟨z, hz1, hz2, hz3⟩ := put_there hok e
                obtain ⟨tk, htk2⟩ : ∃ b, (putE q e).1 = b := ⟨_, rfl⟩
                have hps : (putsE q [e]).1 = b1 tk + 0 := by rw [← htk2]; rfl
                rw [hps] at HP
                rw [htk2] at hz2 hz3
                have HZ2 := Lib.hid hz2
                have HZ3 := Lib.hid hz3
                have HZF : Hid (getD0 e.cell (putE q e).2.l = z ∧ hasE e.cell (putE q e).2.l = true) := Lib.hid ⟨by unfold getD0; rw [hz1]; rfl, by unfold hasE; rw [hz1]; rfl⟩
                have HLW := Lib.hid (Nat.le_trans hlow.2 hbb.size)
                rw [hbx] at hcb y0 y1 y2 y3
                have HCB2 := Lib.hid hcb
                clear hjl he htk hmo hok hq hnx k1 k2 k3 hlow hr2 hbb hcb kb hz1 hz2 hz3 htk2 hps HCB HST
                go_upto_region 18 with (fail)
                rw [← hwb]
                clear hwb x0 x1 x2 x3
                try rw [hbx]
                clear hbx
                go_wp2_with fail
                refine (show Calls Try.prog 11 #[.pointer (some ⟨B, 0, none⟩), .slice (some ⟨wb.heap.size, 0, none⟩) 1 1] _ _ from HP.out).mono ?_
                rintro e5 w3 ⟨rfl, hst⟩
                have HST3 := Lib.hid (HQS.out w3 hst)
                have hbox : Cells w3 bx 38 e.vals := cells_only HCB2.out hst.choose_spec.choose_spec.2.1 fun e2 => HFX.out bx e2 rfl
                have HBOX := Lib.hid hbox
                have y0 : w3.cell? ⟨bx, 0, none⟩ = some (.int .i64 e.cell) := hbox.cell (j := 0) rfl
                have HPK : Hid (Calls Try.prog 14 #[.pointer (some ⟨B, 0, none⟩), .int .i64 e.cell] w3 fun x w' => x = .returned (.tuple #[.agg #[.int .i64 z.cell, .int .i64 z.ver, .int .i64 z.val, .int .i64 z.frm], .bool true]) ∧ Below w3.heap.size w3 w') := Lib.hid (by
                  obtain ⟨A2, c2, k1, _⟩ := HST3.out
                  have h1 := Peek_any k1 e.cell
                  rw [HZF.out.1, HZF.out.2] at h1
                  exact h1)
                clear hst hbox HP HQS HCB2 y1 y2 y3
                have hfin : ∀ (tb : Bool), tk = tb → True := fun _ _ => trivial
                cases tk with
                | true =>
                  obtain rfl : z = e := HZ2.out rfl
                  have hne : ∀ W, (binOp .neq 38 (.agg #[.int .i64 z.cell, .int .i64 z.ver, .int .i64 z.val, .int .i64 z.frm]) (.agg #[.int .i64 z.cell, .int .i64 z.ver, .int .i64 z.val, .int .i64 z.frm])).run Try.prog W = .ok (.bool false) W := fun W => by
                    have h1 := en_nec z z W
                    rw [decide_eq_true rfl] at h1
                    exact h1
                  have hb1' : (b1 true + 0 : Int) = 1 := rfl
                  clear hfin
                  rw [hb1']
                  go_wp2_with fail
                  refine HPK.out.mono ?_
                  rintro e5 w4 ⟨rfl, hb4⟩
                  obtain ⟨w5, hw5⟩ : ∃ W, W = w4.alloc (.cells #[.int .i64 z.cell, .int .i64 z.ver, .int .i64 z.val, .int .i64 z.frm] 38) := ⟨_, rfl⟩
                  have hb5 : Below w4.heap.size w4 w5 := by rw [hw5]; exact below_alloc _ _
                  have hc5 : Cells w5 w4.heap.size 38 z.vals := by rw [hw5]; exact cells_new _ _ _ _ rfl
                  have hb35 := hb4.trans (hb5.mono hb4.size)
                  have hx5 := HBOX.out.later hb35
                  have p0 := hx5.cell (j := 0) rfl
                  have p1 := hx5.cell (j := 1) rfl
                  have p2 := hx5.cell (j := 2) rfl
                  have p3 := hx5.cell (j := 3) rfl
                  have q0 := hc5.cell (j := 0) rfl
                  have q1 := hc5.cell (j := 1) rfl
                  have q2 := hc5.cell (j := 2) rfl
                  have q3 := hc5.cell (j := 3) rfl
                  have HST5 : Hid (CcStep B B A' wv (putsE R (ol.take (j + 1))).2 w5) := Lib.hid (by rw [HNX.out]; exact HST3.out.after hb35)
                  clear hb4 hb5 hc5 hb35 hx5 y0 hb1'
                  go_upto_region 20 with (fail)
                  rw [← hw5]
                  clear hw5
                  go_wp2_with fail
                  go_roundw
                  case rel => exact ⟨j + 1, by omega, by go_num, HST5⟩
                  case measure => simp [intOf]; omega
                | false =>
                  have hzv := HZ3.out rfl
                  have e6 : decide (z.ver ≤ e.ver) = false := by simp; omega
                  have hb1' : (b1 false + 0 : Int) = 0 := rfl
                  clear hfin hzv
                  rw [hb1']
                  go_wp2_with fail
                  refine HPK.out.mono ?_
                  rintro e5 w4 ⟨rfl, hb4⟩
                  obtain ⟨w5, hw5⟩ : ∃ W, W = w4.alloc (.cells #[.int .i64 z.cell, .int .i64 z.ver, .int .i64 z.val, .int .i64 z.frm] 38) := ⟨_, rfl⟩
                  have hb5 : Below w4.heap.size w4 w5 := by rw [hw5]; exact below_alloc _ _
                  have hc5 : Cells w5 w4.heap.size 38 z.vals := by rw [hw5]; exact cells_new _ _ _ _ rfl
                  have hb35 := hb4.trans (hb5.mono hb4.size)
                  have hx5 := HBOX.out.later hb35
                  have p1 := hx5.cell (j := 1) rfl
                  have q1 := hc5.cell (j := 1) rfl
                  have HST5 : Hid (CcStep B B A' wv (putsE R (ol.take (j + 1))).2 w5) := Lib.hid (by rw [HNX.out]; exact HST3.out.after hb35)
                  clear hb4 hb5 hc5 hb35 hx5 y0 hb1'
                  go_upto_region 20 with (fail)
                  rw [← hw5]
                  clear hw5
                  go_wp2_with fail
                  go_roundw
                  case rel => exact ⟨j + 1, by omega, by go_num, HST5⟩
                  case measure => simp [intOf]; omega
              · obtain rfl : j = lq := by omega
                have HSF : Hid (CcStep B B A' wv (putsE R ol).2 wr) := Lib.hid (by
                  have h1 := HST.out
                  rw [List.take_of_length_le (by rw [HLQ.out]; exact Nat.le_refl _)] at h1
                  exact h1)
                have HKF : Hid (Cok (putsE R ol).2 ∧ (putsE R ol).2.room = n) := Lib.hid ⟨Cok.puts ol HK.out.1, (puts_room ol R).trans HK.out.2⟩
                have HKP : Hid ((0 : Int) = 0 → j ≤ 1 → Keep R (putsE R ol).2) := Lib.hid fun _ hle => Keep.puts HK.out.1 ol (by rw [HLQ.out]; exact hle)
                have HKQ : Hid ((0 : Int) ≠ 0 → Keep R (putsE R ol).2) := Lib.hid fun q => absurd rfl q
                clear HST
                go_wp2_with fail
                go_meet
                case rel => exact ⟨_, HKF, HSF, HKP, HKQ⟩
          · have e0 : (ok == 0) = false := by simpa using k0
            by_cases k1 : ok = 1
            · subst k1
              have y1 := (HBX.out wv (Only.of_below (Below.refl _ _))).cell (j := 1) rfl
              have HGE := Lib.hid (stepC (W := wv) (args := #[.pointer (some ⟨B, 0, none⟩), .int .i64 oc]) HST0.out fun A1 c1 hx => Get_any hx oc (HLOW.out wv (Only.of_below (Below.refl _ _))).2 HK.out.1)
              have HKF : Hid (Cok (useE R oc) ∧ (useE R oc).room = n) := Lib.hid ⟨HK.out.1.use oc, (use_room R oc).trans HK.out.2⟩
              have HKP : Hid ((1 : Int) = 0 → lq ≤ 1 → Keep R (useE R oc)) := Lib.hid fun _ _ => Keep.use HK.out.1 oc
              have HKQ : Hid ((1 : Int) ≠ 0 → Keep R (useE R oc)) := Lib.hid fun _ => Keep.use HK.out.1 oc
              clear k0
              go_wp2_with fail
              refine HGE.out.mono ?_
              rintro e5 w3 ⟨rfl, hst⟩
              have HSF := Lib.hid hst
              clear hst y1
              go_wp2_with fail
              go_meet
              case rel => exact ⟨_, HKF, HSF, HKP, HKQ⟩
            · have e1 : (ok == 1) = false := by simpa using k1
              by_cases k3 : ok = 3
              · subst k3
                have hbx := HBX.out wv (Only.of_below (Below.refl _ _))
                have y1 := hbx.cell (j := 1) rfl
                have y2 := hbx.cell (j := 2) rfl
                have HSL := Lib.hid (stepC (W := wv) (args := #[.pointer (some ⟨B, 0, none⟩), .int .i64 oc, .int .i64 ov]) HST0.out fun A1 c1 hx => Stale_any hx oc ov)
                have HTH := Lib.hid (stale_there HK.out.1 oc ov)
                have hkf := HK.out.1.stale oc ov
                have hrf := (stale_room R oc ov).trans HK.out.2
                have hkp := Keep.stale HK.out.1 oc ov
                obtain ⟨R1, hR1⟩ : ∃ R1, (staleE R oc ov).2 = R1 := ⟨_, rfl⟩
                rw [hR1] at HSL HTH hkf hrf hkp
                have HKF : Hid (Cok R1 ∧ R1.room = n) := Lib.hid ⟨hkf, hrf⟩
                have HKP : Hid ((3 : Int) = 0 → lq ≤ 1 → Keep R R1) := Lib.hid fun _ _ => hkp
                have HKQ : Hid ((3 : Int) ≠ 0 → Keep R R1) := Lib.hid fun _ => hkp
                clear k0 k1 hbx hkf hrf hkp hR1
                go_wp2_with fail
                refine HSL.out.mono ?_
                rintro e5 w3 ⟨rfl, hst⟩
                have hbx := HBX.out w3 hst.choose_spec.choose_spec.2.1
                have y1 := hbx.cell (j := 1) rfl
                have HST3 := Lib.hid hst
                have HBX3 := Lib.hid hbx
                obtain ⟨z, hz⟩ : ∃ z, getD0 oc R1.l = z := ⟨_, rfl⟩
                obtain ⟨hb, hhb⟩ : ∃ b, hasE oc R1.l = b := ⟨_, rfl⟩
                rw [hz, hhb] at HTH
                have HPK : Hid (Calls Try.prog 14 #[.pointer (some ⟨B, 0, none⟩), .int .i64 oc] w3 fun x w' => x = .returned (.tuple #[.agg #[.int .i64 z.cell, .int .i64 z.ver, .int .i64 z.val, .int .i64 z.frm], .bool hb]) ∧ Below w3.heap.size w3 w') := Lib.hid (by
                  obtain ⟨A2, c2, q1, _⟩ := hst
                  have h1 := Peek_any q1 oc
                  rw [hz, hhb] at h1
                  exact h1)
                clear hst hbx hz hhb HSL y2
                go_wp2_with fail
                refine HPK.out.mono ?_
                rintro e5 w4 ⟨rfl, hb4⟩
                obtain ⟨w5, hw5⟩ : ∃ W, W = w4.alloc (.cells #[.int .i64 z.cell, .int .i64 z.ver, .int .i64 z.val, .int .i64 z.frm] 38) := ⟨_, rfl⟩
                have hb5 : Below w4.heap.size w4 w5 := by rw [hw5]; exact below_alloc _ _
                have hc5 : Cells w5 w4.heap.size 38 z.vals := by rw [hw5]; exact cells_new _ _ _ _ rfl
                have hb35 := hb4.trans (hb5.mono hb4.size)
                have p2 := (HBX3.out.later hb35).cell (j := 2) rfl
                have q1 := hc5.cell (j := 1) rfl
                have HSF := Lib.hid (HST3.out.after hb35)
                clear hb4 hb5 hc5 hb35 y1
                go_upto_region 28 with (fail)
                rw [← hw5]
                clear hw5
                cases hb with
                | true =>
                  have hv := HTH.out rfl
                  have e6 : decide (z.ver < ov) = false := by simp; omega
                  clear hv
                  go_wp2_with fail
                  go_meet
                  case rel => exact ⟨_, HKF, HSF, HKP, HKQ⟩
                | false =>
                  go_wp2_with fail
                  go_meet
                  case rel => exact ⟨_, HKF, HSF, HKP, HKQ⟩
              · have e3 : (ok == 3) = false := by simpa using k3
                by_cases k4 : ok = 4
                · subst k4
                  have y4 := (HBX.out wv (Only.of_below (Below.refl _ _))).cell (j := 4) rfl
                  have hlow := HLOW.out wv (Only.of_below (Below.refl _ _))
                  have HDR := Lib.hid (stepC (W := wv) (args := #[.pointer (some ⟨B, 0, none⟩), .slice oC ocs.length occ]) HST0.out fun A1 c1 hx => Drops_any hx HK.out.1 (HIN.out wv hlow.1).2.is (fun hne i ei => ⟨fun e2 => by have h1 := HOBL.out.2 i hne ei; have := (hx.lt e2).1; omega, by have h1 := HOBL.out.2 i hne ei; have := hlow.2; omega⟩) (by rw [HCQ.out]; omega))
                  rw [HCQ.out] at HDR
                  have HKF : Hid (Cok (dropsE R ocs).2 ∧ (dropsE R ocs).2.room = n) := Lib.hid ⟨Cok.drops ocs HK.out.1, (drops_room ocs R).trans HK.out.2⟩
                  have HKP : Hid ((4 : Int) = 0 → lq ≤ 1 → Keep R (dropsE R ocs).2) := Lib.hid fun _ _ => Keep.drops HK.out.1 ocs
                  have HKQ : Hid ((4 : Int) ≠ 0 → Keep R (dropsE R ocs).2) := Lib.hid fun _ => Keep.drops HK.out.1 ocs
                  clear k0 k1 k3 hlow
                  go_wp2_with fail
                  refine HDR.out.mono ?_
                  rintro e5 w3 ⟨rfl, hst⟩
                  have HSF := Lib.hid hst
                  clear hst y4
                  go_wp2_with fail
                  go_meet
                  case rel => exact ⟨_, HKF, HSF, HKP, HKQ⟩
                · have e4 : (ok == 4) = false := by simpa using k4
                  have HKP : Hid (ok = 0 → lq ≤ 1 → Keep R R) := Lib.hid fun _ _ => Keep.sub HK.out.1 fun _ hy => hy
                  have HKQ : Hid (ok ≠ 0 → Keep R R) := Lib.hid fun _ => Keep.sub HK.out.1 fun _ hy => hy
                  clear k0 k1 k3 k4
                  go_wp2_with fail
                  go_meet
                  case rel => exact ⟨_, HK, HST0, HKP, HKQ⟩
        case rest =>
          obtain ⟨R', HK2, HST, HKE, HKN⟩ := hcut
          obtain ⟨wd, hwd⟩ : ∃ W, wc = W := ⟨_, rfl⟩
          subst hwd
          have hS := HST.out
          obtain ⟨A2, c2, k1, k2, k3⟩ := hS
          have HAL := Lib.hid (All_any k1)
          obtain ⟨m2, hm2⟩ : ∃ m, R'.l.length = m := ⟨_, rfl⟩
          have hmn : m2 ≤ n := by have h1 := HK2.out.1.len; rw [HK2.out.2, hm2] at h1; omega
          rw [hm2] at HAL
          have e7 : decide ((m2 : Int) > (n : Int)) = false := by simp; omega
          have HBX2 := Lib.hid (HBX.out wc k2)
          have hmn2 : ¬ (n < m2) := by omega
          clear k1 k2 k3 hm2 hmn
          go_wp2_with fail
          refine HAL.out.mono ?_
          rintro e5 w3 ⟨AV2, cV2, rfl, _, hb3⟩
          have hbx := HBX2.out.later hb3
          have y0 := hbx.cell (j := 0) rfl
          have y3 := hbx.cell (j := 3) rfl
          have HST3 : Hid (CcStep B B A' wv R' w3) := Lib.hid (HST.out.after hb3)
          clear hbx hb3 HAL HBX2
          by_cases k0 : ok = 0
          · subst k0
            by_cases hq1 : 1 < lq
            · have e8 : decide ((lq : Int) > 1) = true := by simp; omega
              have HCF : Hid (∃ A' c', CcAt B w3 B R' A' c') := Lib.hid (by obtain ⟨A3, c3, q1, _⟩ := HST3.out; exact ⟨A3, c3, q1⟩)
              have hlow := HLOW.out w3 HST3.out.choose_spec.choose_spec.2.1
              have HBF := Lib.hid hlow.1
              have HSF := Lib.hid hlow.2
              clear hlow
              go_wp2_with fail
              go_roundw
              case rel => exact ⟨k + 1, R', by omega, by go_num, HK2, HCF, HBF, HSF⟩
              case measure => simp [intOf]; omega
            · have e8 : decide ((lq : Int) > 1) = false := by simp; omega
              have HKK := Lib.hid (HKE.out rfl (by omega))
              go_wp2_with fail
              go_loopw [19, 20, 21, 141] (fun _ _ _ i wr => ∃ j : Nat, j ≤ m ∧ i = .int .i64 (j : Int) ∧ Hid (CcStep B B A' wv R' wr)) (fun _ _ _ i _ => m - (intOf i).toNat)
              case atStart => exact ⟨0, Nat.zero_le _, rfl, HST3⟩
              case round =>
                clear HST3
                obtain ⟨j, hj, rfl, HSJ⟩ := hrel
                by_cases hlt : j < m
                · have hjl : j < R.l.length := by rw [HM.out]; exact hlt
                  obtain ⟨x, hx⟩ : ∃ x, R.l[j] = x := ⟨_, rfl⟩
                  have HXM : Hid (x ∈ R.l) := Lib.hid (by rw [← hx]; exact List.getElem_mem hjl)
                  have hS := HSJ.out
                  obtain ⟨A3, c3, q1, q2, q3⟩ := hS
                  obtain ⟨g, off2, rfl, hr2⟩ := (HROW.out wr q2) j (by rw [List.length_map]; exact hjl)
                  rw [List.getElem_map, hx] at hr2
                  have x0 := hr2 0 _ rfl
                  rw [Nat.add_zero] at x0
                  have x1 := hr2 1 _ rfl
                  have x2 := hr2 2 _ rfl
                  have x3 := hr2 3 _ rfl
                  obtain ⟨wb, hwb⟩ : ∃ W, W = wr.alloc (.cells #[.int .i64 x.cell, .int .i64 x.ver, .int .i64 x.val, .int .i64 x.frm] 38) := ⟨_, rfl⟩
                  have hbb : Below wr.heap.size wr wb := by rw [hwb]; exact below_alloc _ _
                  have hcb : Cells wb wr.heap.size 38 x.vals := by rw [hwb]; exact cells_new _ _ _ _ rfl
                  obtain ⟨bx, hbx⟩ : ∃ bx, wr.heap.size = bx := ⟨_, rfl⟩
                  obtain ⟨z, hz⟩ : ∃ z, getD0 x.cell R'.l = z := ⟨_, rfl⟩
                  obtain ⟨hb, hhb⟩ : ∃ b, hasE x.cell R'.l = b := ⟨_, rfl⟩
                  have HV : Hid (hb = true → x.ver ≤ z.ver) := Lib.hid fun e => by
                    rw [← hhb] at e
                    unfold hasE at e
                    obtain ⟨y, hy⟩ := Option.isSome_iff_exists.1 e
                    have hzy : z = y := by rw [← hz]; unfold getD0; rw [hy]; rfl
                    rw [hzy]
                    exact HKK.out x HXM.out y (find_some hy).1 (find_some hy).2
                  have HPK := Lib.hid (Peek_any (q1.later hbb) x.cell)
                  rw [hz, hhb] at HPK
                  unfold En.v at HPK
                  rw [hbx] at hcb
                  have HCB := Lib.hid hcb
                  have y0 := hcb.cell (j := 0) rfl
                  have HSB := Lib.hid (HSJ.out.after hbb)
                  clear hjl hx q1 q2 q3 hr2 hbb hcb hz hhb HSJ
                  go_upto_region 38 with (fail)
                  rw [← hwb]
                  clear hwb x0 x1 x2 x3
                  try rw [hbx]
                  clear hbx
                  go_wp2_with fail
                  refine HPK.out.mono ?_
                  rintro e5 w4 ⟨rfl, hb4⟩
                  obtain ⟨w5, hw5⟩ : ∃ W, W = w4.alloc (.cells #[.int .i64 z.cell, .int .i64 z.ver, .int .i64 z.val, .int .i64 z.frm] 38) := ⟨_, rfl⟩
                  have hb5 : Below w4.heap.size w4 w5 := by rw [hw5]; exact below_alloc _ _
                  have hc5 : Cells w5 w4.heap.size 38 z.vals := by rw [hw5]; exact cells_new _ _ _ _ rfl
                  have hb35 := hb4.trans (hb5.mono hb4.size)
                  have p1 := (HCB.out.later hb35).cell (j := 1) rfl
                  have s1 := hc5.cell (j := 1) rfl
                  have HS5 := Lib.hid (HSB.out.after hb35)
                  clear hb4 hb5 hc5 hb35 y0 HPK
                  go_upto_region 39 with (fail)
                  rw [← hw5]
                  clear hw5
                  cases hb with
                  | true =>
                    have hv := HV.out rfl
                    have e6 : decide (z.ver < x.ver) = false := by simp; omega
                    clear hv
                    go_wp2_with fail
                    go_roundw
                    case rel => exact ⟨j + 1, by omega, by go_num, HS5⟩
                    case measure => simp [intOf]; omega
                  | false =>
                    go_wp2_with fail
                    go_roundw
                    case rel => exact ⟨j + 1, by omega, by go_num, HS5⟩
                    case measure => simp [intOf]; omega
                · have HCF : Hid (∃ A' c', CcAt B wr B R' A' c') := Lib.hid (by obtain ⟨A3, c3, q1, _⟩ := HSJ.out; exact ⟨A3, c3, q1⟩)
                  have hlow := HLOW.out wr HSJ.out.choose_spec.choose_spec.2.1
                  have HBF := Lib.hid hlow.1
                  have HSF := Lib.hid hlow.2
                  clear hlow
                  obtain rfl : j = m := by omega
                  go_wp2_with fail
                  go_roundw
                  case rel => exact ⟨k + 1, R', by omega, by go_num, HK2, HCF, HBF, HSF⟩
                  case measure => simp [intOf]; omega
          · have e0 : (ok == 0) = false := by simpa using k0
            have HKK := Lib.hid (HKN.out k0)
            clear k0
            go_wp2_with fail
            go_loopw [19, 20, 21, 141] (fun _ _ _ i wr => ∃ j : Nat, j ≤ m ∧ i = .int .i64 (j : Int) ∧ Hid (CcStep B B A' wv R' wr)) (fun _ _ _ i _ => m - (intOf i).toNat)
            case atStart => exact ⟨0, Nat.zero_le _, rfl, HST3⟩
            case round =>
              clear HST3
              obtain ⟨j, hj, rfl, HSJ⟩ := hrel
              by_cases hlt : j < m
              · have hjl : j < R.l.length := by rw [HM.out]; exact hlt
                obtain ⟨x, hx⟩ : ∃ x, R.l[j] = x := ⟨_, rfl⟩
                have HXM : Hid (x ∈ R.l) := Lib.hid (by rw [← hx]; exact List.getElem_mem hjl)
                have hS := HSJ.out
                obtain ⟨A3, c3, q1, q2, q3⟩ := hS
                obtain ⟨g, off2, rfl, hr2⟩ := (HROW.out wr q2) j (by rw [List.length_map]; exact hjl)
                rw [List.getElem_map, hx] at hr2
                have x0 := hr2 0 _ rfl
                rw [Nat.add_zero] at x0
                have x1 := hr2 1 _ rfl
                have x2 := hr2 2 _ rfl
                have x3 := hr2 3 _ rfl
                obtain ⟨wb, hwb⟩ : ∃ W, W = wr.alloc (.cells #[.int .i64 x.cell, .int .i64 x.ver, .int .i64 x.val, .int .i64 x.frm] 38) := ⟨_, rfl⟩
                have hbb : Below wr.heap.size wr wb := by rw [hwb]; exact below_alloc _ _
                have hcb : Cells wb wr.heap.size 38 x.vals := by rw [hwb]; exact cells_new _ _ _ _ rfl
                obtain ⟨bx, hbx⟩ : ∃ bx, wr.heap.size = bx := ⟨_, rfl⟩
                obtain ⟨z, hz⟩ : ∃ z, getD0 x.cell R'.l = z := ⟨_, rfl⟩
                obtain ⟨hb, hhb⟩ : ∃ b, hasE x.cell R'.l = b := ⟨_, rfl⟩
                have HV : Hid (hb = true → x.ver ≤ z.ver) := Lib.hid fun e => by
                  rw [← hhb] at e
                  unfold hasE at e
                  obtain ⟨y, hy⟩ := Option.isSome_iff_exists.1 e
                  have hzy : z = y := by rw [← hz]; unfold getD0; rw [hy]; rfl
                  rw [hzy]
                  exact HKK.out x HXM.out y (find_some hy).1 (find_some hy).2
                have HPK := Lib.hid (Peek_any (q1.later hbb) x.cell)
                rw [hz, hhb] at HPK
                unfold En.v at HPK
                rw [hbx] at hcb
                have HCB := Lib.hid hcb
                have y0 := hcb.cell (j := 0) rfl
                have HSB := Lib.hid (HSJ.out.after hbb)
                clear hjl hx q1 q2 q3 hr2 hbb hcb hz hhb HSJ
                go_upto_region 38 with (fail)
                rw [← hwb]
                clear hwb x0 x1 x2 x3
                try rw [hbx]
                clear hbx
                go_wp2_with fail
                refine HPK.out.mono ?_
                rintro e5 w4 ⟨rfl, hb4⟩
                obtain ⟨w5, hw5⟩ : ∃ W, W = w4.alloc (.cells #[.int .i64 z.cell, .int .i64 z.ver, .int .i64 z.val, .int .i64 z.frm] 38) := ⟨_, rfl⟩
                have hb5 : Below w4.heap.size w4 w5 := by rw [hw5]; exact below_alloc _ _
                have hc5 : Cells w5 w4.heap.size 38 z.vals := by rw [hw5]; exact cells_new _ _ _ _ rfl
                have hb35 := hb4.trans (hb5.mono hb4.size)
                have p1 := (HCB.out.later hb35).cell (j := 1) rfl
                have s1 := hc5.cell (j := 1) rfl
                have HS5 := Lib.hid (HSB.out.after hb35)
                clear hb4 hb5 hc5 hb35 y0 HPK
                go_upto_region 39 with (fail)
                rw [← hw5]
                clear hw5
                cases hb with
                | true =>
                  have hv := HV.out rfl
                  have e6 : decide (z.ver < x.ver) = false := by simp; omega
                  clear hv
                  go_wp2_with fail
                  go_roundw
                  case rel => exact ⟨j + 1, by omega, by go_num, HS5⟩
                  case measure => simp [intOf]; omega
                | false =>
                  go_wp2_with fail
                  go_roundw
                  case rel => exact ⟨j + 1, by omega, by go_num, HS5⟩
                  case measure => simp [intOf]; omega
              · have HCF : Hid (∃ A' c', CcAt B wr B R' A' c') := Lib.hid (by obtain ⟨A3, c3, q1, _⟩ := HSJ.out; exact ⟨A3, c3, q1⟩)
                have hlow := HLOW.out wr HSJ.out.choose_spec.choose_spec.2.1
                have HBF := Lib.hid hlow.1
                have HSF := Lib.hid hlow.2
                clear hlow
                obtain rfl : j = m := by omega
                go_wp2_with fail
                go_roundw
                case rel => exact ⟨k + 1, R', by omega, by go_num, HK2, HCF, HBF, HSF⟩
                case measure => simp [intOf]; omega
      · obtain rfl : k = N := by omega
        go_wp2_with fail
        go_returns
        exact ⟨rfl, HB1.out.trans (HB.out.mono (by rw [← HBE.out]; exact HB1.out.size))⟩
theorem opened {H : Type} {enc : TypeId × Value → H} {W : World} {base : Nat} {gs : List (DataW H)} (v0 : Value) (d0 : DataW H) (p0 : List MemPlace) (v1 : Value) (d1 : DataW H) (p1 : List MemPlace)
    (o0 : Value.okWide Try.prog W .any base 5 v0) (t0 : DataW.Trod enc Try.prog W 0 (fun _ => true) true 5 v0 d0 p0)
    (o1 : Value.okWide Try.prog W .any base 22 v1) (t1 : DataW.Trod enc Try.prog W 0 (fun _ => true) true 22 v1 d1 p1)
    (hsz : (DataW.weightsEach Try.prog ([5, 22] ++ []) ([d0, d1] ++ gs)).all (· ≤ reachBytes) = true) :
    Calls Try.prog 4 #[v0, v1] W fun e W' => e = .returned (.bool true) ∧ Below W.heap.size W W' := by
  obtain ⟨n, rfl, h1, h2⟩ := arg_u8 o0 t0
  obtain ⟨a0, len, cap, rfl⟩ := okWide_slice Try.underlying22 o1
  obtain ⟨A, os, cap', e, h3, h4, _⟩ := came_ops (came_of t1 (Base.small_of hsz (j := 1) rfl rfl) (by simp [Value.cells]))
  rw [e]
  obtain ⟨r, rfl⟩ : ∃ r : Nat, n = (r : Int) := ⟨n.toNat, by omega⟩
  exact walk r A os cap' W (by omega) h3 h4

theorem contract (H : Type) (enc : TypeId × Value → H) (W : World) (base : Nat) (args : Array Value) (ds gs : List (DataW H)) (before : List MemPlace)
    (hval : ∀ (j : Nat) t v, Try.f4.params[j]? = some t → args[j]? = some v → Value.okWide Try.prog W .any base t v)
    (hW : DataW.Whole enc Try.prog Try.f4.params.toList Rows.cacheKeepsSpec.vars false W args.toList ds gs before)
    (hsz : (DataW.weightsEach Try.prog (Try.f4.params.toList ++ []) (ds ++ gs)).all (· ≤ reachBytes) = true) :
    Calls Try.prog 4 args W fun e W' => ∃ v, e = .returned v ∧ Rows.cacheKeepsSpec.post enc Try.prog Try.f4 false true false false W args v W' := by
  have hW0 := hW
  obtain ⟨p, q, hA0, hV, rfl, _, _⟩ := hW
  have hA : DataW.TrodAll enc Try.prog W 0 (fun _ => true) true Try.f4.params.toList args.toList ds p := hA0
  rw [Try.params4] at hA hval hsz
  obtain ⟨v0, vs0, d0, ds0, p0, q0, hargs, rfl, rfl, h0, r0⟩ := trodAll_cons hA
  obtain ⟨v1, vs1, d1, ds1, p1, q1, rfl, rfl, rfl, h1, r1⟩ := trodAll_cons r0
  obtain ⟨rfl, rfl, rfl⟩ := trodAll_nil r1
  obtain rfl : args = #[v0, v1] := by cases args; simp_all
  refine (opened v0 d0 p0 v1 d1 p1 (hval 0 5 v0 rfl rfl) h0 (hval 1 22 v1 rfl rfl) h1 hsz).mono fun e W' ⟨he, hb⟩ => ⟨_, he, ?_⟩
  exact Base.law_post (tb := 4) Base.laidOut (by kernel_rfl) rfl Try.underlying4 rfl (fun l hl => by
    rw [Try.params4] at hl
    match l, hl with
    | [_, _], _ => rfl) (by rw [Try.params4]; rfl) hW0 hb

theorem laid_met (os : Os) : laidMet Try.prog Rows.cacheKeepsRow.laid ((Base.plainWorld os).forCall (fun _ _ => 0) ⟨#[], #[.int .u8 0, .slice none 0 0], []⟩).memory := laidMet_nil _ _
theorem reads (os : Os) {H : Type} (enc : TypeId × Value → H) : ∃ places, DataW.whole enc Try.prog ((Base.plainWorld os).forCall (fun _ _ => 0) ⟨#[], #[.int .u8 0, .slice none 0 0], []⟩).memory Try.f4.params.toList Rows.cacheKeepsSpec.vars false (#[.int .u8 0, .slice none 0 0] : Array Value).toList 8 = some ([.lit (.int .u8 0), .nil], [], places) :=
  ⟨[], by kernel_rfl⟩

set_option maxRecDepth 100000 in
theorem lifted (os : Os) (started : os.Started) (H : Type) (enc : TypeId × Value → H) (F : Stop.Interp) :
    ReturnsInHanded {} Try.checked os 4 .any ((OpenSpec.ofChange Rows.cacheKeepsSpec).preRow enc Try.prog Try.f4 Rows.cacheKeepsRow.domain false Rows.cacheKeepsRow.laid) (((OpenSpec.ofChange Rows.cacheKeepsSpec).at F).post enc Try.prog Try.f4 false true false false) := by
  obtain ⟨places, hx⟩ := reads os enc
  refine returnsInHanded_of_row (C := Try.checked) (s := OpenSpec.ofChange Rows.cacheKeepsSpec) Base.own started (by kernel_rfl) Try.func4
    (witness_row_at (enc := enc) (C := Try.checked) false (Base.plainWorld os) #[.int .u8 0, .slice none 0 0] rfl (by kernel_rfl) (by kernel_rfl) (by kernel_rfl)
      (OpenSpec.preRow_of_cond 8 hx (by kernel_rfl) (fun k hk => by cases hk) (by kernel_rfl) (laid_met os))) ?_
  intro W base args ds gs before hval hW _ _ hsz _ _ _
  exact contract H enc W base args ds gs before hval hW hsz

theorem said : Rows.CacheKeepsSaid :=
  OpenClaim.holds_of_cond 4 Try.f4 rfl rfl rfl rfl rfl rfl rfl ⟨rfl, rfl, rfl, rfl, rfl⟩ rfl rfl rfl rfl rfl (by kernel_rfl) Try.func4 (by kernel_rfl)
    (of_decide_eq_true (by kernel_rfl)) (by unfold Func.isWrapper; rw [if_neg (of_decide_eq_false (by kernel_rfl))]; exact ⟨rfl, rfl⟩)
    (fun os started H enc _ F => by rw [OpenClaim.pre_eq_preRow]; exact lifted os started H enc F)
#print axioms said
end Go.Proofs.Yteedlenelfidcaa.CacheKeeps
