/-
  P18.1: Whatever is held, freed and expires, in any order, a table answers and has what the document says. Conditions: none.
-/
import Derived.Test.YtiobblmagjbhjaaLeaDuo
namespace Go.Proofs.Ytiobblmagjbhjaa.LeasePlays
set_option maxRecDepth 100000
open Go.ChangeShapes Go.WideShapes Go.ChangeAt Go.RowKit Go.Deep Go.Proofs.Ytiobblmagjbhjaa.Mem Go.Proofs.Ytiobblmagjbhjaa.Lea

def leaPl30 (tb rb gb ct lq oac ac : Nat) (A oA : Option Addr) (mt : Bool) (tid : Lt) : Nat → Value → World → Prop
  | 0, v, _ => v = .pointer (some ⟨tb, 0, none⟩)
  | 1, v, _ => v = .pointer (some ⟨gb, 2, none⟩)
  | 2, v, _ => v = .agg #[.int .i64 tid.node, .int .i64 tid.epoch, .int .i64 tid.seq]
  | 3, v, _ => v = .pointer (some ⟨gb, 5, none⟩)
  | 4, v, _ => v = .slice oA lq oac
  | 5, v, _ => v = .bool mt
  | 6, v, _ => v = .bool mt
  | 7, v, _ => v = .bool false
  | 8, v, _ => v = .bool false
  | 9, v, _ => v = .pointer (some ⟨tb, 0, none⟩)
  | 10, v, _ => v = .int .i64 (ct : Int)
  | 11, v, _ => v = .pointer (some ⟨rb, 0, none⟩)
  | 12, v, _ => v = .pointer (some ⟨rb, 0, none⟩)
  | 13, v, _ => v = .pointer (some ⟨rb, 1, none⟩)
  | 14, v, _ => v = .slice A ct ac
  | 15, v, _ => v = .int .i64 (ct : Int)
  | 16, v, _ => v = .bool false
  | 17, v, _ => v = .bool false
  | _, _, _ => True
theorem leaPl30_later {tb rb gb ct lq oac ac : Nat} {A oA : Option Addr} {mt : Bool} {tid : Lt} {j : Nat} {v : Value} {w w' : World} (_hb : Below w.heap.size w w') (h : leaPl30 tb rb gb ct lq oac ac A oA mt tid j v w) : leaPl30 tb rb gb ct lq oac ac A oA mt tid j v w' := by
  match j, h with
  | 0, h | 1, h | 2, h | 3, h | 4, h | 5, h | 6, h | 7, h | 8, h | 9, h | 10, h | 11, h | 12, h | 13, h | 14, h | 15, h | 16, h | 17, h => exact h
  | _ + 18, _ => exact trivial
set_option maxHeartbeats 8000000 in
theorem walk (nn : Int) (A0 : Option Addr) (os : List Opl) (cap : Nat) (w : World) (h : Opls w A0 os) (hl : os.length ≤ 140737488351232) :
    Calls Try.prog 3 #[.int .i64 nn, .slice A0 os.length cap] w fun e w' => e = .returned (.bool true) ∧ Below w.heap.size w w' := by
  have HA := Lib.hid (awake_any w)
  have HH := Lib.hid h
  have HGR := Lib.hid (fun (wi : World) (hb : Below w.heap.size w wi) => great_any A0 os cap wi (h.later hb) hl)
  obtain ⟨N, hN⟩ : ∃ n, os.length = n := ⟨_, rfl⟩
  have HN := Lib.hid hN
  obtain ⟨gr, hgr⟩ : ∃ b, greatN os = b := ⟨_, rfl⟩
  have HG := Lib.hid hgr
  rw [hN] at hl HGR ⊢
  rw [hgr] at HGR
  clear h hN hgr
  cases gr with
  | true =>
    go_enter Try.func3, Try.ntmps3
    go_wp2_with fail
    refine HA.out.mono ?_
    rintro e w1 ⟨rfl, hb1⟩
    have HB1 := Lib.hid hb1
    clear hb1
    go_wp2_with fail
    refine (HGR.out w1 HB1.out).mono ?_
    rintro e w2 ⟨rfl, hb2⟩
    have HB2 := Lib.hid (HB1.out.trans (hb2.mono HB1.out.size))
    clear hb2
    go_wp2_with fail
    go_returns
    exact ⟨rfl, HB2.out⟩
  | false =>
    have HSM := Lib.hid (great_no HG.out)
    by_cases hbad : nn < 1 ∨ 16 < nn
    · have HNB := Lib.hid fun wi => New_bad wi nn hbad
      by_cases hb1 : nn < 1
      · have e1 : decide (nn < 1) = true := decide_eq_true hb1
        clear hbad hb1
        go_enter Try.func3, Try.ntmps3
        go_wp2_with fail
        refine HA.out.mono ?_
        rintro e w0 ⟨rfl, hb0⟩
        have HB0 := Lib.hid hb0
        clear hb0 HA
        go_wp2_with fail
        refine (HGR.out w0 HB0.out).mono ?_
        rintro e w1 ⟨rfl, hb1⟩
        have HB1 := Lib.hid (HB0.out.trans (hb1.mono HB0.out.size))
        clear hb1 HGR HB0
        go_wp2_with fail
        refine (HNB.out w1).mono ?_
        rintro e w2 ⟨rfl, hw2⟩
        rw [hw2]
        clear hw2
        go_wp2_with fail
        go_returns
        exact ⟨rfl, HB1.out⟩
      · have e1 : decide (nn < 1) = false := decide_eq_false hb1
        have e2 : decide (nn > 16) = true := decide_eq_true (by omega)
        clear hbad hb1
        go_enter Try.func3, Try.ntmps3
        go_wp2_with fail
        refine HA.out.mono ?_
        rintro e w0 ⟨rfl, hb0⟩
        have HB0 := Lib.hid hb0
        clear hb0 HA
        go_wp2_with fail
        refine (HGR.out w0 HB0.out).mono ?_
        rintro e w1 ⟨rfl, hb1⟩
        have HB1 := Lib.hid (HB0.out.trans (hb1.mono HB0.out.size))
        clear hb1 HGR HB0
        go_wp2_with fail
        refine (HNB.out w1).mono ?_
        rintro e w2 ⟨rfl, hw2⟩
        rw [hw2]
        clear hw2
        go_wp2_with fail
        go_returns
        exact ⟨rfl, HB1.out⟩
    · obtain ⟨n, rfl⟩ : ∃ n : Nat, nn = (n : Int) := ⟨nn.toNat, by omega⟩
      have hn1 : 1 ≤ n := by omega
      have hn2 : n ≤ 16 := by omega
      have e1 : decide ((n : Int) < 1) = false := decide_eq_false (by omega)
      have e2 : decide ((n : Int) > 16) = false := decide_eq_false (by omega)
      clear hbad
      go_enter Try.func3, Try.ntmps3
      go_wp2_with fail
      refine HA.out.mono ?_
      rintro e w0 ⟨rfl, hb0⟩
      have HB0 := Lib.hid hb0
      clear hb0 HA
      go_wp2_with fail
      refine (HGR.out w0 HB0.out).mono ?_
      rintro e w1 ⟨rfl, hb1⟩
      have HB1 := Lib.hid (HB0.out.trans (hb1.mono HB0.out.size))
      clear hb1 HGR HB0
      have HNW := Lib.hid (New_any w1 n hn1 hn2)
      obtain ⟨B, hB⟩ : ∃ B, w1.heap.size = B := ⟨_, rfl⟩
      have HBE := Lib.hid hB
      rw [hB] at HNW
      clear hB
      go_wp2_with fail
      refine HNW.out.mono ?_
      rintro e w2 ⟨tb, g, rfl, h2, hb2⟩
      obtain ⟨w3, hw3⟩ : ∃ W, W = w2.alloc (.cells #[.int .i64 (n : Int), .slice none 0 0] 32) := ⟨_, rfl⟩
      have hb3 : Below w2.heap.size w2 w3 := by rw [hw3]; exact below_alloc _ _
      have hc3 : Cells w3 w2.heap.size 32 [.int .i64 (n : Int), .slice none 0 0] := by rw [hw3]; exact cells_new _ _ _ _ rfl
      obtain ⟨rb, hrb⟩ : ∃ x, w2.heap.size = x := ⟨_, rfl⟩
      have hB2 : B ≤ w2.heap.size := Nat.le_trans (Nat.le_of_eq HBE.out.symm) hb2.size
      have hlen : (List.replicate n sv0).length = n := List.length_replicate
      have hdr : docR (List.replicate n sv0) = ⟨(n : Int), []⟩ := by unfold docR; rw [hlen, doc_new]
      have HBO : Hid (∃ A ac T, Both B w3 tb g rb A ac T ∧ T.length = n) := Lib.hid ⟨none, 0, List.replicate n sv0, ⟨h2.later hb3, by
        rw [hdr, ← hrb]
        exact ⟨hc3, ⟨by simp, Or.inl ⟨rfl, rfl⟩⟩, hB2, (fun k e => by cases e), Nat.zero_le _⟩, fun k e => by
        rcases e with e | e
        · have h5 := h2.glt.2
          have h6 := h2.box.lt
          exact ⟨by omega, by omega⟩
        · cases e⟩, hlen⟩
      have HB3 : Hid (Below B w1 w3 ∧ B ≤ w3.heap.size) := Lib.hid ⟨hb2.trans (hb3.mono hB2), Nat.le_trans hB2 hb3.size⟩
      have HOS : Hid (∀ k, k < N → ∃ b off o, A0 = some ⟨b, off, none⟩ ∧ os[k]? = some o ∧ o.l.length ≤ 40 ∧ (∀ i, o.l ≠ [] → blk o.A = some i → i < B) ∧ ∀ wi, Below B w1 wi → wi.rangeAt b (off + k * 6) o.vals ∧ o.Ok wi) := Lib.hid fun k hk => by
        have hlt : k < os.length := by rw [HN.out]; exact hk
        obtain ⟨b, off, e1, e2, e3⟩ := (HH.out.later HB1.out).at hlt
        refine ⟨b, off, os[k], e1, List.getElem?_eq_getElem hlt, HSM.out.2 _ (List.getElem_mem hlt), fun i hne hb => ?_, fun wi hb => ?_⟩
        · rw [← HBE.out]
          exact irow_lt e3.is hne hb
        · have hb' : Below w1.heap.size w1 wi := by rw [HBE.out]; exact hb
          exact ⟨range_later e2 hb', e3.later hb'⟩
      clear h2 hb2 hb3 hc3 hB2 hlen hdr HNW
      go_upto_region 11 with (fail)
      rw [← hw3]
      try rw [hrb]
      clear hw3 hrb
      go_wp2_with fail
      go_loopw [49] (fun i wr => ∃ k : Nat, k ≤ N ∧ i = .int .i64 (k : Int) ∧ Hid (∃ A ac T, Both B wr tb g rb A ac T ∧ T.length = n) ∧ Hid (Below B w1 wr ∧ B ≤ wr.heap.size)) (fun i _ => N - (intOf i).toNat)
      case atStart => exact ⟨0, Nat.zero_le _, rfl, HBO, HB3⟩
      case round =>
        clear HBO HB3
        obtain ⟨k, hk, rfl, HBT, HLO⟩ := hrel
        by_cases hkn : k < N
        · obtain ⟨b, off, o, rfl, hok, hl40, hlow, hin⟩ := HOS.out k hkn
          have HIN := Lib.hid fun wi hb => (hin wi hb).2.is
          have HLW := Lib.hid hlow
          have hrg := (hin wr HLO.out.1).1
          obtain ⟨ok, on, tid, oA, oac, ol⟩ := o
          dsimp only at hl40
          obtain ⟨lq, hlq⟩ : ∃ q, ol.length = q := ⟨_, rfl⟩
          have HLQ := Lib.hid hlq
          unfold Opl.vals at hrg
          dsimp only at hrg
          rw [hlq] at hrg hl40
          have x0 := hrg 0 _ rfl
          rw [Nat.add_zero] at x0
          have x1 := hrg 1 _ rfl
          have x2 := hrg 2 _ rfl
          have x3 := hrg 3 _ rfl
          have x4 := hrg 4 _ rfl
          have x5 := hrg 5 _ rfl
          obtain ⟨we, hwe⟩ : ∃ W, W = wr.alloc (.cells #[.int .i64 ok, .int .i64 on, .int .i64 tid.node, .int .i64 tid.epoch, .int .i64 tid.seq, .slice oA lq oac] 37) := ⟨_, rfl⟩
          have hbe : Below wr.heap.size wr we := by rw [hwe]; exact below_alloc _ _
          have hce : Cells we wr.heap.size 37 [.int .i64 ok, .int .i64 on, .int .i64 tid.node, .int .i64 tid.epoch, .int .i64 tid.seq, .slice oA lq oac] := by rw [hwe]; exact cells_new _ _ _ _ rfl
          obtain ⟨gb, hgb⟩ : ∃ gb, wr.heap.size = gb := ⟨_, rfl⟩
          have hbt := HBT.out
          obtain ⟨A, ac, T, hbo, htl⟩ := hbt
          have HBX : Hid (∀ wx, Only (wset g rb A) we wx → Cells wx gb 37 [.int .i64 ok, .int .i64 on, .int .i64 tid.node, .int .i64 tid.epoch, .int .i64 tid.seq, .slice oA lq oac]) := Lib.hid fun wx ho => by
            rw [← hgb]
            exact cells_only hce ho fun e => by have := (hbo.lt e).2; omega
          have HBO : Hid (Both B we tb g rb A ac T) := Lib.hid (hbo.later hbe)
          have HTL := Lib.hid htl
          have HLE : Hid (Below B w1 we ∧ B ≤ we.heap.size) := Lib.hid ⟨HLO.out.1.trans (hbe.mono HLO.out.2), Nat.le_trans HLO.out.2 hbe.size⟩
          have HLT : Hid ((∀ k, k = g → k < we.heap.size) ∧ ∀ k, lfoot rb A k → k < we.heap.size) := Lib.hid ⟨fun k e => (HBO.out.lt (Or.inl e)).2, fun k e => (HBO.out.lt (Or.inr e)).2⟩
          clear hin hrg hok hlq hbe hce hbo htl HBT HLO hlow
          go_upto_region 14 with (fail)
          rw [← hwe]
          clear hwe x0 x1 x2 x3 x4 x5
          try rw [hgb]
          clear hgb
          have y0 := (HBX.out we (Only.of_below (Below.refl _ _))).cell (j := 0) rfl
          go_upto_block 2 with fail
          clear y0
          go_cut [] from 55 to 99 (fun wx => ∃ (A' : Option Addr) (ac' : Nat) (T' : List Sv), Hid (Both B wx tb g rb A' ac' T' ∧ T'.length = n) ∧ Hid (Below B w1 wx ∧ B ≤ wx.heap.size) ∧ Hid (Cells wx gb 37 [.int .i64 ok, .int .i64 on, .int .i64 tid.node, .int .i64 tid.epoch, .int .i64 tid.seq, .slice oA lq oac]))
          case first =>
            by_cases k0 : ok = 0
            · subst k0
              obtain ⟨T1, hT1⟩ : ∃ T1, holdT T tid on ol = T1 := ⟨_, rfl⟩
              obtain ⟨er, her⟩ : ∃ x, errT T tid ol = x := ⟨_, rfl⟩
              have HER : Hid ((er != er) = false) := Lib.hid (by simp)
              have HT1L : Hid (T1.length = n) := Lib.hid (by rw [← hT1, holdT_len]; exact HTL.out)
              have HCC : Hid (∀ wi (dj : Bool), Mid B we wi tb g rb A ac T T1 false dj → Calls Try.prog 10 #[.pointer (some ⟨tb, 0, none⟩), .agg #[.int .i64 tid.node, .int .i64 tid.epoch, .int .i64 tid.seq], .int .i64 on, .slice oA lq oac] wi fun e w' => e = .returned (.int .i64 er) ∧ Mid B we w' tb g rb A ac T T1 true dj ∧ Only (fun k => k = g) wi w') := Lib.hid fun wi dj hm => by
                refine Mid.callC HBO.out hm (Q := fun e _ => e = .returned (.int .i64 er)) fun ht => ?_
                have h5 := Hold_any ht tid on (lc := oac) (HIN.out wi (HLE.out.1.trans (hm.below HBO.out HLE.out.2).1)) (fun hne i ei => by have h1 := HLW.out i hne ei; have := ht.glt.1; omega) (by show ol.length ≤ 1000; rw [HLQ.out]; omega)
                dsimp only at h5
                rw [HLQ.out, her, hT1] at h5
                exact h5
              have HCR : Hid (∀ wi (di : Bool), Mid B we wi tb g rb A ac T T1 di false → Calls Try.prog 11 #[.pointer (some ⟨rb, 0, none⟩), .agg #[.int .i64 tid.node, .int .i64 tid.epoch, .int .i64 tid.seq], .int .i64 on, .slice oA lq oac] wi fun e w' => e = .returned (.int .i64 er) ∧ Mid B we w' tb g rb A ac T T1 di true ∧ Only (lfoot rb A) wi w') := Lib.hid fun wi di hm => by
                refine Mid.callR HBO.out hm (Q := fun e _ => e = .returned (.int .i64 er)) fun hd => ?_
                have h5 := RHold_any hd HBO.out.code.ok tid on (lc := oac) (HIN.out wi (HLE.out.1.trans (hm.below HBO.out HLE.out.2).1)) (fun hne i ei e2 => by have h1 := HLW.out i hne ei; have := (hd.lt e2).1; omega) (by show ol.length ≤ 1000; rw [HLQ.out]; omega) (hm.below HBO.out HLE.out.2).2
                dsimp only at h5
                rw [HLQ.out, her, hT1] at h5
                exact h5
              clear hT1 her
              go_upto_region 16 with (fail)
              refine Reg.region_inv (by kernel_rfl) (fun i => ([some (.pointer (some ⟨tb, 0, none⟩)), some (.pointer (some ⟨gb, 2, none⟩)), some (.agg #[.int .i64 tid.node, .int .i64 tid.epoch, .int .i64 tid.seq]), some (.pointer (some ⟨gb, 1, none⟩)), some (.int .i64 on), some (.pointer (some ⟨gb, 5, none⟩)), some (.slice oA lq oac), some (.int .i64 er), some (.pointer (some ⟨rb, 0, none⟩)), some (.pointer (some ⟨gb, 2, none⟩)), some (.agg #[.int .i64 tid.node, .int .i64 tid.epoch, .int .i64 tid.seq]), some (.pointer (some ⟨gb, 1, none⟩)), some (.int .i64 on), some (.pointer (some ⟨gb, 5, none⟩)), some (.slice oA lq oac), some (.int .i64 er), some (.bool false)] : List (Option Value)).getD i none) (fun D V W => Mid B we W tb g rb A ac T T1 (D 7) (D 15)) (fun V => [(some 57, V 0), (some 58, V 1), (some 59, V 2), (some 60, V 3), (some 61, V 4), (some 62, V 5), (some 63, V 6), (some 64, V 7), (some 65, V 8), (some 66, V 9), (some 67, V 10), (some 68, V 11), (some 69, V 12), (some 70, V 13), (some 71, V 14), (some 72, V 15), (some 73, V 16)]) (by kernel_rfl) (by kernel_rfl) (fun V => rfl) ?_ ?_ ?_
              · intro V
                exact HBO.out.mid (Below.refl _ _).drew T1
              · intro i o ho
                have hi : i < 17 := (Array.getElem?_eq_some_iff.1 ho).1
                rcases i with _ | _ | _ | _ | _ | _ | _ | _ | _ | _ | _ | _ | _ | _ | _ | _ | _ | i
                rotate_right
                · omega
                all_goals obtain rfl := Option.some.inj ho
                all_goals intro D V ρ wi hE hI hDi hT hF hs hd hk
                · have e5 : ρ (.tmp 5) = .pointer (some ⟨tb, 0, none⟩) := hs 5; clear hT hF hk
                  exact Reg.Gives.value (v := .pointer (some ⟨tb, 0, none⟩)) (w' := wi) (by go_simp) ⟨fun x h => Option.some.inj h, hI⟩
                · have e9 : ρ (.tmp 9) = .pointer (some ⟨gb, 0, none⟩) := hs 9; clear hT hF hk
                  exact Reg.Gives.value (v := .pointer (some ⟨gb, 2, none⟩)) (w' := wi) (by go_simp) ⟨fun x h => Option.some.inj h, hI⟩
                · have e58 : ρ (.tmp 58) = .pointer (some ⟨gb, 2, none⟩) := (hd 1 58).trans (hk 1 _ rfl); clear hT hF; have hq := HBX.out wi hI.only; have q2 := hq.cell (j := 2) rfl; have q3 := hq.cell (j := 3) rfl; have q4 := hq.cell (j := 4) rfl
                  exact Reg.Gives.value (v := .agg #[.int .i64 tid.node, .int .i64 tid.epoch, .int .i64 tid.seq]) (w' := wi) (by go_simp) ⟨fun x h => Option.some.inj h, hI⟩
                · have e9 : ρ (.tmp 9) = .pointer (some ⟨gb, 0, none⟩) := hs 9; clear hT hF hk
                  exact Reg.Gives.value (v := .pointer (some ⟨gb, 1, none⟩)) (w' := wi) (by go_simp) ⟨fun x h => Option.some.inj h, hI⟩
                · have e60 : ρ (.tmp 60) = .pointer (some ⟨gb, 1, none⟩) := (hd 3 60).trans (hk 3 _ rfl); clear hT hF; have hq := HBX.out wi hI.only; have q1 := hq.cell (j := 1) rfl
                  exact Reg.Gives.value (v := .int .i64 on) (w' := wi) (by go_simp) ⟨fun x h => Option.some.inj h, hI⟩
                · have e9 : ρ (.tmp 9) = .pointer (some ⟨gb, 0, none⟩) := hs 9; clear hT hF hk
                  exact Reg.Gives.value (v := .pointer (some ⟨gb, 5, none⟩)) (w' := wi) (by go_simp) ⟨fun x h => Option.some.inj h, hI⟩
                · have e62 : ρ (.tmp 62) = .pointer (some ⟨gb, 5, none⟩) := (hd 5 62).trans (hk 5 _ rfl); clear hT hF; have hq := HBX.out wi hI.only; have q5 := hq.cell (j := 5) rfl
                  exact Reg.Gives.value (v := .slice oA lq oac) (w' := wi) (by go_simp) ⟨fun x h => Option.some.inj h, hI⟩
                · have e57 : ρ (.tmp 57) = .pointer (some ⟨tb, 0, none⟩) := (hd 0 57).trans (hk 0 _ rfl); have e59 : ρ (.tmp 59) = .agg #[.int .i64 tid.node, .int .i64 tid.epoch, .int .i64 tid.seq] := (hd 2 59).trans (hk 2 _ rfl); have e61 : ρ (.tmp 61) = .int .i64 on := (hd 4 61).trans (hk 4 _ rfl); have e63 : ρ (.tmp 63) = .slice oA lq oac := (hd 6 63).trans (hk 6 _ rfl); have hf := hE.func
                  have hD7 : D 7 = false := hDi; clear hT hF
                  have h1 : Mid B we wi tb g rb A ac T T1 (false) (D 15) := by rw [hD7] at hI; exact hI
                  refine Reg.Gives.call (f := 10) (args := #[.pointer (some ⟨tb, 0, none⟩), .agg #[.int .i64 tid.node, .int .i64 tid.epoch, .int .i64 tid.seq], .int .i64 on, .slice oA lq oac]) (w' := wi) (by go_simp) ?_
                  refine (HCC.out wi _ h1).mono ?_
                  rintro e w'' ⟨rfl, hn, _⟩
                  exact ⟨_, rfl, fun x h => Option.some.inj h, by show Mid B we w'' tb g rb A ac T T1 (true) (D 15); exact hn⟩
                · have e7 : ρ (.tmp 7) = .pointer (some ⟨rb, 0, none⟩) := hs 7; clear hT hF hk
                  exact Reg.Gives.value (v := .pointer (some ⟨rb, 0, none⟩)) (w' := wi) (by go_simp) ⟨fun x h => Option.some.inj h, hI⟩
                · have e9 : ρ (.tmp 9) = .pointer (some ⟨gb, 0, none⟩) := hs 9; clear hT hF hk
                  exact Reg.Gives.value (v := .pointer (some ⟨gb, 2, none⟩)) (w' := wi) (by go_simp) ⟨fun x h => Option.some.inj h, hI⟩
                · have e66 : ρ (.tmp 66) = .pointer (some ⟨gb, 2, none⟩) := (hd 9 66).trans (hk 9 _ rfl); clear hT hF; have hq := HBX.out wi hI.only; have q2 := hq.cell (j := 2) rfl; have q3 := hq.cell (j := 3) rfl; have q4 := hq.cell (j := 4) rfl
                  exact Reg.Gives.value (v := .agg #[.int .i64 tid.node, .int .i64 tid.epoch, .int .i64 tid.seq]) (w' := wi) (by go_simp) ⟨fun x h => Option.some.inj h, hI⟩
                · have e9 : ρ (.tmp 9) = .pointer (some ⟨gb, 0, none⟩) := hs 9; clear hT hF hk
                  exact Reg.Gives.value (v := .pointer (some ⟨gb, 1, none⟩)) (w' := wi) (by go_simp) ⟨fun x h => Option.some.inj h, hI⟩
                · have e68 : ρ (.tmp 68) = .pointer (some ⟨gb, 1, none⟩) := (hd 11 68).trans (hk 11 _ rfl); clear hT hF; have hq := HBX.out wi hI.only; have q1 := hq.cell (j := 1) rfl
                  exact Reg.Gives.value (v := .int .i64 on) (w' := wi) (by go_simp) ⟨fun x h => Option.some.inj h, hI⟩
                · have e9 : ρ (.tmp 9) = .pointer (some ⟨gb, 0, none⟩) := hs 9; clear hT hF hk
                  exact Reg.Gives.value (v := .pointer (some ⟨gb, 5, none⟩)) (w' := wi) (by go_simp) ⟨fun x h => Option.some.inj h, hI⟩
                · have e70 : ρ (.tmp 70) = .pointer (some ⟨gb, 5, none⟩) := (hd 13 70).trans (hk 13 _ rfl); clear hT hF; have hq := HBX.out wi hI.only; have q5 := hq.cell (j := 5) rfl
                  exact Reg.Gives.value (v := .slice oA lq oac) (w' := wi) (by go_simp) ⟨fun x h => Option.some.inj h, hI⟩
                · have e65 : ρ (.tmp 65) = .pointer (some ⟨rb, 0, none⟩) := (hd 8 65).trans (hk 8 _ rfl); have e67 : ρ (.tmp 67) = .agg #[.int .i64 tid.node, .int .i64 tid.epoch, .int .i64 tid.seq] := (hd 10 67).trans (hk 10 _ rfl); have e69 : ρ (.tmp 69) = .int .i64 on := (hd 12 69).trans (hk 12 _ rfl); have e71 : ρ (.tmp 71) = .slice oA lq oac := (hd 14 71).trans (hk 14 _ rfl); have hf := hE.func
                  have hD15 : D 15 = false := hDi; clear hT hF
                  have h1 : Mid B we wi tb g rb A ac T T1 (D 7) (false) := by rw [hD15] at hI; exact hI
                  refine Reg.Gives.call (f := 11) (args := #[.pointer (some ⟨rb, 0, none⟩), .agg #[.int .i64 tid.node, .int .i64 tid.epoch, .int .i64 tid.seq], .int .i64 on, .slice oA lq oac]) (w' := wi) (by go_simp) ?_
                  refine (HCR.out wi _ h1).mono ?_
                  rintro e w'' ⟨rfl, hn, _⟩
                  exact ⟨_, rfl, fun x h => Option.some.inj h, by show Mid B we w'' tb g rb A ac T T1 (D 7) (true); exact hn⟩
                · have e64 : ρ (.tmp 64) = .int .i64 er := (hd 7 64).trans (hk 7 _ rfl); have e72 : ρ (.tmp 72) = .int .i64 er := (hd 15 72).trans (hk 15 _ rfl); clear hT hF; have z1 := HER.out
                  exact Reg.Gives.value (v := .bool false) (w' := wi) (by go_simp) ⟨fun x h => Option.some.inj h, hI⟩
              · intro V wf hk hI
                have hV16 : V 16 = .bool false := hk 16 (by show _ < 17; decide) _ rfl
                simp only [Reg.putsO, List.foldl_cons, List.foldl_nil, Act.put, List.setIfInBounds_toArray, List.set_cons_succ, List.set_cons_zero, hV16]
                replace hI : Mid B we wf tb g rb A ac T T1 true true := hI
                clear hk hV16
                have hM : Mid B we wf tb g rb A ac T T1 true true := hI
                have HBF : Hid (∃ A' ac', Both B wf tb g rb A' ac' T1) := Lib.hid (hM.both HBO.out)
                have HLF := Lib.hid (hM.below HBO.out HLE.out.2)
                have HLG : Hid (Below B w1 wf ∧ B ≤ wf.heap.size) := Lib.hid ⟨HLE.out.1.trans HLF.out.1, HLF.out.2⟩
                have HCF := Lib.hid (HBX.out wf hM.only)
                have hbf := HBF.out
                obtain ⟨A', ac', hbo'⟩ := hbf
                have HBQ := Lib.hid (And.intro hbo' HT1L.out)
                clear hI hM hbo' HBF
                go_wp2_with fail
                go_meet
                case rel => exact ⟨_, _, _, HBQ, HLG, HCF⟩
            · have e0 : (ok == 0) = false := by simpa using k0
              by_cases k1 : ok = 1
              · subst k1
                obtain ⟨T1, hT1⟩ : ∃ T1, dropT (byWho tid) T = T1 := ⟨_, rfl⟩
                obtain ⟨gs, hgs⟩ : ∃ x, goneT (byWho tid) 0 T = x := ⟨_, rfl⟩
                have HT1L : Hid (T1.length = n) := Lib.hid (by rw [← hT1, dropT_len]; exact HTL.out)
                have HGS : Hid (gs.length ≤ 16) := Lib.hid (by rw [← hgs]; exact Nat.le_trans (goneT_len ..) (by rw [HTL.out]; exact hn2))
                have HCC : Hid (∀ wi (dj : Bool), Mid B we wi tb g rb A ac T T1 false dj → Calls Try.prog 13 #[.pointer (some ⟨tb, 0, none⟩), .agg #[.int .i64 tid.node, .int .i64 tid.epoch, .int .i64 tid.seq]] wi fun e w' => (∃ A1 n1 c1, e = .returned (.slice A1 n1 c1) ∧ OwnI wi.heap.size w' (.slice A1 n1 c1) gs) ∧ Mid B we w' tb g rb A ac T T1 true dj ∧ Only (fun k => k = g) wi w') := Lib.hid fun wi dj hm => by
                  refine Mid.callC HBO.out hm (Q := fun e w' => ∃ A1 n1 c1, e = .returned (.slice A1 n1 c1) ∧ OwnI wi.heap.size w' (.slice A1 n1 c1) gs) fun ht => ?_
                  refine (Free_any ht tid).mono ?_
                  rintro e w' ⟨A1, n1, c1, rfl, q1, q2, q3⟩
                  exact ⟨⟨A1, n1, c1, rfl, by rw [← hgs]; exact q1⟩, by rw [← hT1]; exact q2, q3⟩
                have HCR : Hid (∀ wi (di : Bool), Mid B we wi tb g rb A ac T T1 di false → Calls Try.prog 14 #[.pointer (some ⟨rb, 0, none⟩), .bool false, .agg #[.int .i64 tid.node, .int .i64 tid.epoch, .int .i64 tid.seq], .int .i64 0] wi fun e w' => (∃ A1 n1 c1, e = .returned (.slice A1 n1 c1) ∧ OwnI wi.heap.size w' (.slice A1 n1 c1) gs) ∧ Mid B we w' tb g rb A ac T T1 di true ∧ Only (lfoot rb A) wi w') := Lib.hid fun wi di hm => by
                  refine Mid.callR HBO.out hm (Q := fun e w' => ∃ A1 n1 c1, e = .returned (.slice A1 n1 c1) ∧ OwnI wi.heap.size w' (.slice A1 n1 c1) gs) fun hd => ?_
                  refine (RDrop_any hd false tid 0 (hm.below HBO.out HLE.out.2).2).mono ?_
                  rintro e w' ⟨A1, n1, c1, rfl, q1, q2⟩
                  exact ⟨⟨A1, n1, c1, rfl, by rw [← hgs]; exact q1⟩, by rw [← hT1]; exact q2⟩
                have HSM2 : Hid (∀ (wi : World) A1 n1 c1 A2 n2 c2, OwnI we.heap.size wi (.slice A1 n1 c1) gs → OwnI we.heap.size wi (.slice A2 n2 c2) gs → Calls Try.prog 12 #[.slice A1 n1 c1, .slice A2 n2 c2] wi fun e w' => e = .returned (.bool true) ∧ Below wi.heap.size wi w') := Lib.hid fun wi A1 n1 c1 A2 n2 c2 q1 q2 => by
                  obtain ⟨r1, r2⟩ := OwnG.irow q1
                  obtain ⟨r3, r4⟩ := OwnG.irow q2
                  rw [List.map_id'] at r2 r4
                  subst r1
                  subst r3
                  have h5 := Same_any A1 A2 gs gs c1 c2 wi r2 r4 (by have := HGS.out; omega)
                  rw [decide_eq_true rfl] at h5
                  exact h5
                clear hT1 hgs HSM
                have HSM := HSM2
                go_upto_region 19 with (fail)
                refine Reg.region_inv (by kernel_rfl) (fun i => ([some (.pointer (some ⟨tb, 0, none⟩)), some (.pointer (some ⟨gb, 2, none⟩)), some (.agg #[.int .i64 tid.node, .int .i64 tid.epoch, .int .i64 tid.seq]), none, some (.pointer (some ⟨rb, 0, none⟩)), some (.pointer (some ⟨gb, 2, none⟩)), some (.agg #[.int .i64 tid.node, .int .i64 tid.epoch, .int .i64 tid.seq]), none, some (.bool true), some (.bool false)] : List (Option Value)).getD i none) (fun D V W => Mid B we W tb g rb A ac T T1 (D 3) (D 7) ∧ (D 3 = true → ∃ A1 n1 c1, V 3 = Value.slice A1 n1 c1 ∧ OwnI we.heap.size W (.slice A1 n1 c1) gs) ∧ (D 7 = true → ∃ A1 n1 c1, V 7 = Value.slice A1 n1 c1 ∧ OwnI we.heap.size W (.slice A1 n1 c1) gs)) (fun V => [(some 76, V 0), (some 77, V 1), (some 78, V 2), (some 79, V 3), (some 80, V 4), (some 81, V 5), (some 82, V 6), (some 83, V 7), (some 84, V 8), (some 85, V 9)]) (by kernel_rfl) (by kernel_rfl) (fun V => rfl) ?_ ?_ ?_
                · intro V
                  exact ⟨HBO.out.mid (Below.refl _ _).drew T1, fun e => (by cases e), fun e => (by cases e)⟩
                · intro i o ho
                  have hi : i < 10 := (Array.getElem?_eq_some_iff.1 ho).1
                  rcases i with _ | _ | _ | _ | _ | _ | _ | _ | _ | _ | i
                  rotate_right
                  · omega
                  all_goals obtain rfl := Option.some.inj ho
                  all_goals intro D V ρ wi hE hI hDi hT hF hs hd hk
                  · have e5 : ρ (.tmp 5) = .pointer (some ⟨tb, 0, none⟩) := hs 5; clear hT hF hk
                    exact Reg.Gives.value (v := .pointer (some ⟨tb, 0, none⟩)) (w' := wi) (by go_simp) ⟨fun x h => Option.some.inj h, hI⟩
                  · have e9 : ρ (.tmp 9) = .pointer (some ⟨gb, 0, none⟩) := hs 9; clear hT hF hk
                    exact Reg.Gives.value (v := .pointer (some ⟨gb, 2, none⟩)) (w' := wi) (by go_simp) ⟨fun x h => Option.some.inj h, hI⟩
                  · have e77 : ρ (.tmp 77) = .pointer (some ⟨gb, 2, none⟩) := (hd 1 77).trans (hk 1 _ rfl); clear hT hF; have hq := HBX.out wi hI.1.only; have q2 := hq.cell (j := 2) rfl; have q3 := hq.cell (j := 3) rfl; have q4 := hq.cell (j := 4) rfl
                    exact Reg.Gives.value (v := .agg #[.int .i64 tid.node, .int .i64 tid.epoch, .int .i64 tid.seq]) (w' := wi) (by go_simp) ⟨fun x h => Option.some.inj h, hI⟩
                  · have e76 : ρ (.tmp 76) = .pointer (some ⟨tb, 0, none⟩) := (hd 0 76).trans (hk 0 _ rfl); have e78 : ρ (.tmp 78) = .agg #[.int .i64 tid.node, .int .i64 tid.epoch, .int .i64 tid.seq] := (hd 2 78).trans (hk 2 _ rfl); have hf := hE.func; have hD3 : D 3 = false := hDi; clear hT hF; obtain ⟨h1, h2, h3⟩ := hI
                    rw [hD3] at h1
                    refine Reg.Gives.call (f := 13) (args := #[.pointer (some ⟨tb, 0, none⟩), .agg #[.int .i64 tid.node, .int .i64 tid.epoch, .int .i64 tid.seq]]) (w' := wi) (by go_simp) ?_
                    refine (HCC.out wi _ h1).mono ?_
                    rintro e w'' ⟨⟨A8, n8, c8, rfl, hr⟩, hn, ho⟩
                    refine ⟨_, rfl, fun x h => (by cases h), ?_⟩
                    show Mid B we w'' tb g rb A ac T T1 (true) (D 7) ∧ (true = true → ∃ A1 n1 c1, Value.slice A8 n8 c8 = Value.slice A1 n1 c1 ∧ OwnI we.heap.size w'' (.slice A1 n1 c1) gs) ∧ (D 7 = true → ∃ A1 n1 c1, V 7 = Value.slice A1 n1 c1 ∧ OwnI we.heap.size w'' (.slice A1 n1 c1) gs)
                    exact ⟨hn, fun _ => ⟨A8, n8, c8, rfl, OwnG.up h1.only.size hr⟩, fun e => by obtain ⟨A2, n2, c2, q1, q2⟩ := h3 e; exact ⟨A2, n2, c2, q1, row_mid q2 ho HLT.out.1⟩⟩
                  · have e7 : ρ (.tmp 7) = .pointer (some ⟨rb, 0, none⟩) := hs 7; clear hT hF hk
                    exact Reg.Gives.value (v := .pointer (some ⟨rb, 0, none⟩)) (w' := wi) (by go_simp) ⟨fun x h => Option.some.inj h, hI⟩
                  · have e9 : ρ (.tmp 9) = .pointer (some ⟨gb, 0, none⟩) := hs 9; clear hT hF hk
                    exact Reg.Gives.value (v := .pointer (some ⟨gb, 2, none⟩)) (w' := wi) (by go_simp) ⟨fun x h => Option.some.inj h, hI⟩
                  · have e81 : ρ (.tmp 81) = .pointer (some ⟨gb, 2, none⟩) := (hd 5 81).trans (hk 5 _ rfl); clear hT hF; have hq := HBX.out wi hI.1.only; have q2 := hq.cell (j := 2) rfl; have q3 := hq.cell (j := 3) rfl; have q4 := hq.cell (j := 4) rfl
                    exact Reg.Gives.value (v := .agg #[.int .i64 tid.node, .int .i64 tid.epoch, .int .i64 tid.seq]) (w' := wi) (by go_simp) ⟨fun x h => Option.some.inj h, hI⟩
                  · have e80 : ρ (.tmp 80) = .pointer (some ⟨rb, 0, none⟩) := (hd 4 80).trans (hk 4 _ rfl); have e82 : ρ (.tmp 82) = .agg #[.int .i64 tid.node, .int .i64 tid.epoch, .int .i64 tid.seq] := (hd 6 82).trans (hk 6 _ rfl); have hc := hE.const; have hf := hE.func; have hD7 : D 7 = false := hDi; clear hT hF; obtain ⟨h1, h2, h3⟩ := hI
                    rw [hD7] at h1
                    refine Reg.Gives.call (f := 14) (args := #[.pointer (some ⟨rb, 0, none⟩), .bool false, .agg #[.int .i64 tid.node, .int .i64 tid.epoch, .int .i64 tid.seq], .int .i64 0]) (w' := wi) (by go_simp) ?_
                    refine (HCR.out wi _ h1).mono ?_
                    rintro e w'' ⟨⟨A8, n8, c8, rfl, hr⟩, hn, ho⟩
                    refine ⟨_, rfl, fun x h => (by cases h), ?_⟩
                    show Mid B we w'' tb g rb A ac T T1 (D 3) (true) ∧ (D 3 = true → ∃ A1 n1 c1, V 3 = Value.slice A1 n1 c1 ∧ OwnI we.heap.size w'' (.slice A1 n1 c1) gs) ∧ (true = true → ∃ A1 n1 c1, Value.slice A8 n8 c8 = Value.slice A1 n1 c1 ∧ OwnI we.heap.size w'' (.slice A1 n1 c1) gs)
                    exact ⟨hn, fun e => by obtain ⟨A2, n2, c2, q1, q2⟩ := h2 e; exact ⟨A2, n2, c2, q1, row_mid q2 ho HLT.out.2⟩, fun _ => ⟨A8, n8, c8, rfl, OwnG.up h1.only.size hr⟩⟩
                  · have e79 : ρ (.tmp 79) = V 3 := hd 3 79; have e83 : ρ (.tmp 83) = V 7 := hd 7 83; have hf := hE.func; have hD3 : D 3 = true := hT 1 3; have hD7 : D 7 = true := hT 1 7; clear hT hF; obtain ⟨h1, h2, h3⟩ := hI; obtain ⟨A1, n1, c1, q1, q2⟩ := h2 hD3; obtain ⟨A2, n2, c2, q3, q4⟩ := h3 hD7
                    rw [q1] at e79
                    rw [q3] at e83
                    refine Reg.Gives.call (f := 12) (args := #[.slice A1 n1 c1, .slice A2 n2 c2]) (w' := wi) (by go_simp) ?_
                    refine (HSM.out wi A1 n1 c1 A2 n2 c2 q2 q4).mono ?_
                    rintro e w'' ⟨rfl, hb⟩
                    exact ⟨_, rfl, fun x h => Option.some.inj h, h1.later hb, fun e => by obtain ⟨A5, n5, c5, q5, q6⟩ := h2 e; exact ⟨A5, n5, c5, q5, q6.later hb⟩, fun e => by obtain ⟨A5, n5, c5, q5, q6⟩ := h3 e; exact ⟨A5, n5, c5, q5, q6.later hb⟩⟩
                  · have e84 : ρ (.tmp 84) = .bool true := (hd 8 84).trans (hk 8 _ rfl); clear hT hF hk
                    exact Reg.Gives.value (v := .bool false) (w' := wi) (by go_simp) ⟨fun x h => Option.some.inj h, hI⟩
                · intro V wf hk hI
                  have hV9 : V 9 = .bool false := hk 9 (by show _ < 10; decide) _ rfl
                  simp only [Reg.putsO, List.foldl_cons, List.foldl_nil, Act.put, List.setIfInBounds_toArray, List.set_cons_succ, List.set_cons_zero, hV9]
                  replace hI : Mid B we wf tb g rb A ac T T1 true true ∧ ((fun _ => true) 3 = true → ∃ A1 n1 c1, V 3 = Value.slice A1 n1 c1 ∧ OwnI we.heap.size wf (.slice A1 n1 c1) gs) ∧ ((fun _ => true) 7 = true → ∃ A1 n1 c1, V 7 = Value.slice A1 n1 c1 ∧ OwnI we.heap.size wf (.slice A1 n1 c1) gs) := hI
                  clear hk hV9
                  have hM : Mid B we wf tb g rb A ac T T1 true true := hI.1
                  have HBF : Hid (∃ A' ac', Both B wf tb g rb A' ac' T1) := Lib.hid (hM.both HBO.out)
                  have HLF := Lib.hid (hM.below HBO.out HLE.out.2)
                  have HLG : Hid (Below B w1 wf ∧ B ≤ wf.heap.size) := Lib.hid ⟨HLE.out.1.trans HLF.out.1, HLF.out.2⟩
                  have HCF := Lib.hid (HBX.out wf hM.only)
                  have hbf := HBF.out
                  obtain ⟨A', ac', hbo'⟩ := hbf
                  have HBQ := Lib.hid (And.intro hbo' HT1L.out)
                  clear hI hM hbo' HBF
                  go_wp2_with fail
                  go_meet
                  case rel => exact ⟨_, _, _, HBQ, HLG, HCF⟩
              · have e1' : (ok == 1) = false := by simpa using k1
                by_cases k2 : ok = 2
                · subst k2
                  obtain ⟨T1, hT1⟩ : ∃ T1, dropT (byTime on) T = T1 := ⟨_, rfl⟩
                  obtain ⟨gs, hgs⟩ : ∃ x, goneT (byTime on) 0 T = x := ⟨_, rfl⟩
                  have HT1L : Hid (T1.length = n) := Lib.hid (by rw [← hT1, dropT_len]; exact HTL.out)
                  have HGS : Hid (gs.length ≤ 16) := Lib.hid (by rw [← hgs]; exact Nat.le_trans (goneT_len ..) (by rw [HTL.out]; exact hn2))
                  have HCC : Hid (∀ wi (dj : Bool), Mid B we wi tb g rb A ac T T1 false dj → Calls Try.prog 15 #[.pointer (some ⟨tb, 0, none⟩), .int .i64 on] wi fun e w' => (∃ A1 n1 c1, e = .returned (.slice A1 n1 c1) ∧ OwnI wi.heap.size w' (.slice A1 n1 c1) gs) ∧ Mid B we w' tb g rb A ac T T1 true dj ∧ Only (fun k => k = g) wi w') := Lib.hid fun wi dj hm => by
                    refine Mid.callC HBO.out hm (Q := fun e w' => ∃ A1 n1 c1, e = .returned (.slice A1 n1 c1) ∧ OwnI wi.heap.size w' (.slice A1 n1 c1) gs) fun ht => ?_
                    refine (Expire_any ht on).mono ?_
                    rintro e w' ⟨A1, n1, c1, rfl, q1, q2, q3⟩
                    exact ⟨⟨A1, n1, c1, rfl, by rw [← hgs]; exact q1⟩, by rw [← hT1]; exact q2, q3⟩
                  have HCR : Hid (∀ wi (di : Bool), Mid B we wi tb g rb A ac T T1 di false → Calls Try.prog 14 #[.pointer (some ⟨rb, 0, none⟩), .bool true, .agg #[.int .i64 tid.node, .int .i64 tid.epoch, .int .i64 tid.seq], .int .i64 on] wi fun e w' => (∃ A1 n1 c1, e = .returned (.slice A1 n1 c1) ∧ OwnI wi.heap.size w' (.slice A1 n1 c1) gs) ∧ Mid B we w' tb g rb A ac T T1 di true ∧ Only (lfoot rb A) wi w') := Lib.hid fun wi di hm => by
                    refine Mid.callR HBO.out hm (Q := fun e w' => ∃ A1 n1 c1, e = .returned (.slice A1 n1 c1) ∧ OwnI wi.heap.size w' (.slice A1 n1 c1) gs) fun hd => ?_
                    refine (RDrop_any hd true tid on (hm.below HBO.out HLE.out.2).2).mono ?_
                    rintro e w' ⟨A1, n1, c1, rfl, q1, q2⟩
                    exact ⟨⟨A1, n1, c1, rfl, by rw [← hgs]; exact q1⟩, by rw [← hT1]; exact q2⟩
                  have HSM2 : Hid (∀ (wi : World) A1 n1 c1 A2 n2 c2, OwnI we.heap.size wi (.slice A1 n1 c1) gs → OwnI we.heap.size wi (.slice A2 n2 c2) gs → Calls Try.prog 12 #[.slice A1 n1 c1, .slice A2 n2 c2] wi fun e w' => e = .returned (.bool true) ∧ Below wi.heap.size wi w') := Lib.hid fun wi A1 n1 c1 A2 n2 c2 q1 q2 => by
                    obtain ⟨r1, r2⟩ := OwnG.irow q1
                    obtain ⟨r3, r4⟩ := OwnG.irow q2
                    rw [List.map_id'] at r2 r4
                    subst r1
                    subst r3
                    have h5 := Same_any A1 A2 gs gs c1 c2 wi r2 r4 (by have := HGS.out; omega)
                    rw [decide_eq_true rfl] at h5
                    exact h5
                  clear hT1 hgs HSM
                  have HSM := HSM2
                  go_upto_region 22 with (fail)
                  refine Reg.region_inv (by kernel_rfl) (fun i => ([some (.pointer (some ⟨tb, 0, none⟩)), some (.pointer (some ⟨gb, 1, none⟩)), some (.int .i64 on), none, some (.pointer (some ⟨rb, 0, none⟩)), some (.pointer (some ⟨gb, 2, none⟩)), some (.agg #[.int .i64 tid.node, .int .i64 tid.epoch, .int .i64 tid.seq]), some (.pointer (some ⟨gb, 1, none⟩)), some (.int .i64 on), none, some (.bool true), some (.bool false)] : List (Option Value)).getD i none) (fun D V W => Mid B we W tb g rb A ac T T1 (D 3) (D 9) ∧ (D 3 = true → ∃ A1 n1 c1, V 3 = Value.slice A1 n1 c1 ∧ OwnI we.heap.size W (.slice A1 n1 c1) gs) ∧ (D 9 = true → ∃ A1 n1 c1, V 9 = Value.slice A1 n1 c1 ∧ OwnI we.heap.size W (.slice A1 n1 c1) gs)) (fun V => [(some 88, V 0), (some 89, V 1), (some 90, V 2), (some 91, V 3), (some 92, V 4), (some 93, V 5), (some 94, V 6), (some 95, V 7), (some 96, V 8), (some 97, V 9), (some 98, V 10), (some 99, V 11)]) (by kernel_rfl) (by kernel_rfl) (fun V => rfl) ?_ ?_ ?_
                  · intro V
                    exact ⟨HBO.out.mid (Below.refl _ _).drew T1, fun e => (by cases e), fun e => (by cases e)⟩
                  · intro i o ho
                    have hi : i < 12 := (Array.getElem?_eq_some_iff.1 ho).1
                    rcases i with _ | _ | _ | _ | _ | _ | _ | _ | _ | _ | _ | _ | i
                    rotate_right
                    · omega
                    all_goals obtain rfl := Option.some.inj ho
                    all_goals intro D V ρ wi hE hI hDi hT hF hs hd hk
                    · have e5 : ρ (.tmp 5) = .pointer (some ⟨tb, 0, none⟩) := hs 5; clear hT hF hk
                      exact Reg.Gives.value (v := .pointer (some ⟨tb, 0, none⟩)) (w' := wi) (by go_simp) ⟨fun x h => Option.some.inj h, hI⟩
                    · have e9 : ρ (.tmp 9) = .pointer (some ⟨gb, 0, none⟩) := hs 9; clear hT hF hk
                      exact Reg.Gives.value (v := .pointer (some ⟨gb, 1, none⟩)) (w' := wi) (by go_simp) ⟨fun x h => Option.some.inj h, hI⟩
                    · have e89 : ρ (.tmp 89) = .pointer (some ⟨gb, 1, none⟩) := (hd 1 89).trans (hk 1 _ rfl); clear hT hF; have hq := HBX.out wi hI.1.only; have q1 := hq.cell (j := 1) rfl
                      exact Reg.Gives.value (v := .int .i64 on) (w' := wi) (by go_simp) ⟨fun x h => Option.some.inj h, hI⟩
                    · have e88 : ρ (.tmp 88) = .pointer (some ⟨tb, 0, none⟩) := (hd 0 88).trans (hk 0 _ rfl); have e90 : ρ (.tmp 90) = .int .i64 on := (hd 2 90).trans (hk 2 _ rfl); have hf := hE.func; have hD3 : D 3 = false := hDi; clear hT hF; obtain ⟨h1, h2, h3⟩ := hI
                      rw [hD3] at h1
                      refine Reg.Gives.call (f := 15) (args := #[.pointer (some ⟨tb, 0, none⟩), .int .i64 on]) (w' := wi) (by go_simp) ?_
                      refine (HCC.out wi _ h1).mono ?_
                      rintro e w'' ⟨⟨A8, n8, c8, rfl, hr⟩, hn, ho⟩
                      refine ⟨_, rfl, fun x h => (by cases h), ?_⟩
                      show Mid B we w'' tb g rb A ac T T1 (true) (D 9) ∧ (true = true → ∃ A1 n1 c1, Value.slice A8 n8 c8 = Value.slice A1 n1 c1 ∧ OwnI we.heap.size w'' (.slice A1 n1 c1) gs) ∧ (D 9 = true → ∃ A1 n1 c1, V 9 = Value.slice A1 n1 c1 ∧ OwnI we.heap.size w'' (.slice A1 n1 c1) gs)
                      exact ⟨hn, fun _ => ⟨A8, n8, c8, rfl, OwnG.up h1.only.size hr⟩, fun e => by obtain ⟨A2, n2, c2, q1, q2⟩ := h3 e; exact ⟨A2, n2, c2, q1, row_mid q2 ho HLT.out.1⟩⟩
                    · have e7 : ρ (.tmp 7) = .pointer (some ⟨rb, 0, none⟩) := hs 7; clear hT hF hk
                      exact Reg.Gives.value (v := .pointer (some ⟨rb, 0, none⟩)) (w' := wi) (by go_simp) ⟨fun x h => Option.some.inj h, hI⟩
                    · have e9 : ρ (.tmp 9) = .pointer (some ⟨gb, 0, none⟩) := hs 9; clear hT hF hk
                      exact Reg.Gives.value (v := .pointer (some ⟨gb, 2, none⟩)) (w' := wi) (by go_simp) ⟨fun x h => Option.some.inj h, hI⟩
                    · have e93 : ρ (.tmp 93) = .pointer (some ⟨gb, 2, none⟩) := (hd 5 93).trans (hk 5 _ rfl); clear hT hF; have hq := HBX.out wi hI.1.only; have q2 := hq.cell (j := 2) rfl; have q3 := hq.cell (j := 3) rfl; have q4 := hq.cell (j := 4) rfl
                      exact Reg.Gives.value (v := .agg #[.int .i64 tid.node, .int .i64 tid.epoch, .int .i64 tid.seq]) (w' := wi) (by go_simp) ⟨fun x h => Option.some.inj h, hI⟩
                    · have e9 : ρ (.tmp 9) = .pointer (some ⟨gb, 0, none⟩) := hs 9; clear hT hF hk
                      exact Reg.Gives.value (v := .pointer (some ⟨gb, 1, none⟩)) (w' := wi) (by go_simp) ⟨fun x h => Option.some.inj h, hI⟩
                    · have e95 : ρ (.tmp 95) = .pointer (some ⟨gb, 1, none⟩) := (hd 7 95).trans (hk 7 _ rfl); clear hT hF; have hq := HBX.out wi hI.1.only; have q1 := hq.cell (j := 1) rfl
                      exact Reg.Gives.value (v := .int .i64 on) (w' := wi) (by go_simp) ⟨fun x h => Option.some.inj h, hI⟩
                    · have e92 : ρ (.tmp 92) = .pointer (some ⟨rb, 0, none⟩) := (hd 4 92).trans (hk 4 _ rfl); have e94 : ρ (.tmp 94) = .agg #[.int .i64 tid.node, .int .i64 tid.epoch, .int .i64 tid.seq] := (hd 6 94).trans (hk 6 _ rfl); have e96 : ρ (.tmp 96) = .int .i64 on := (hd 8 96).trans (hk 8 _ rfl); have hc := hE.const; have hf := hE.func; have hD9 : D 9 = false := hDi; clear hT hF
                      obtain ⟨h1, h2, h3⟩ := hI
                      rw [hD9] at h1
                      refine Reg.Gives.call (f := 14) (args := #[.pointer (some ⟨rb, 0, none⟩), .bool true, .agg #[.int .i64 tid.node, .int .i64 tid.epoch, .int .i64 tid.seq], .int .i64 on]) (w' := wi) (by go_simp) ?_
                      refine (HCR.out wi _ h1).mono ?_
                      rintro e w'' ⟨⟨A8, n8, c8, rfl, hr⟩, hn, ho⟩
                      refine ⟨_, rfl, fun x h => (by cases h), ?_⟩
                      show Mid B we w'' tb g rb A ac T T1 (D 3) (true) ∧ (D 3 = true → ∃ A1 n1 c1, V 3 = Value.slice A1 n1 c1 ∧ OwnI we.heap.size w'' (.slice A1 n1 c1) gs) ∧ (true = true → ∃ A1 n1 c1, Value.slice A8 n8 c8 = Value.slice A1 n1 c1 ∧ OwnI we.heap.size w'' (.slice A1 n1 c1) gs)
                      exact ⟨hn, fun e => by obtain ⟨A2, n2, c2, q1, q2⟩ := h2 e; exact ⟨A2, n2, c2, q1, row_mid q2 ho HLT.out.2⟩, fun _ => ⟨A8, n8, c8, rfl, OwnG.up h1.only.size hr⟩⟩
                    · have e91 : ρ (.tmp 91) = V 3 := hd 3 91; have e97 : ρ (.tmp 97) = V 9 := hd 9 97; have hf := hE.func; have hD3 : D 3 = true := hT 1 3; have hD9 : D 9 = true := hT 1 9; clear hT hF; obtain ⟨h1, h2, h3⟩ := hI; obtain ⟨A1, n1, c1, q1, q2⟩ := h2 hD3; obtain ⟨A2, n2, c2, q3, q4⟩ := h3 hD9
                      rw [q1] at e91
                      rw [q3] at e97
                      refine Reg.Gives.call (f := 12) (args := #[.slice A1 n1 c1, .slice A2 n2 c2]) (w' := wi) (by go_simp) ?_
                      refine (HSM.out wi A1 n1 c1 A2 n2 c2 q2 q4).mono ?_
                      rintro e w'' ⟨rfl, hb⟩
                      exact ⟨_, rfl, fun x h => Option.some.inj h, h1.later hb, fun e => by obtain ⟨A5, n5, c5, q5, q6⟩ := h2 e; exact ⟨A5, n5, c5, q5, q6.later hb⟩, fun e => by obtain ⟨A5, n5, c5, q5, q6⟩ := h3 e; exact ⟨A5, n5, c5, q5, q6.later hb⟩⟩
                    · have e98 : ρ (.tmp 98) = .bool true := (hd 10 98).trans (hk 10 _ rfl); clear hT hF hk
                      exact Reg.Gives.value (v := .bool false) (w' := wi) (by go_simp) ⟨fun x h => Option.some.inj h, hI⟩
                  · intro V wf hk hI
                    have hV11 : V 11 = .bool false := hk 11 (by show _ < 12; decide) _ rfl
                    simp only [Reg.putsO, List.foldl_cons, List.foldl_nil, Act.put, List.setIfInBounds_toArray, List.set_cons_succ, List.set_cons_zero, hV11]
                    replace hI : Mid B we wf tb g rb A ac T T1 true true ∧ ((fun _ => true) 3 = true → ∃ A1 n1 c1, V 3 = Value.slice A1 n1 c1 ∧ OwnI we.heap.size wf (.slice A1 n1 c1) gs) ∧ ((fun _ => true) 9 = true → ∃ A1 n1 c1, V 9 = Value.slice A1 n1 c1 ∧ OwnI we.heap.size wf (.slice A1 n1 c1) gs) := hI
                    clear hk hV11
                    have hM : Mid B we wf tb g rb A ac T T1 true true := hI.1
                    have HBF : Hid (∃ A' ac', Both B wf tb g rb A' ac' T1) := Lib.hid (hM.both HBO.out)
                    have HLF := Lib.hid (hM.below HBO.out HLE.out.2)
                    have HLG : Hid (Below B w1 wf ∧ B ≤ wf.heap.size) := Lib.hid ⟨HLE.out.1.trans HLF.out.1, HLF.out.2⟩
                    have HCF := Lib.hid (HBX.out wf hM.only)
                    have hbf := HBF.out
                    obtain ⟨A', ac', hbo'⟩ := hbf
                    have HBQ := Lib.hid (And.intro hbo' HT1L.out)
                    clear hI hM hbo' HBF
                    go_wp2_with fail
                    go_meet
                    case rel => exact ⟨_, _, _, HBQ, HLG, HCF⟩
                · have e2' : (ok == 2) = false := by simpa using k2
                  have HCF := Lib.hid (HBX.out we (Only.of_below (Below.refl _ _)))
                  have HBQ := Lib.hid (And.intro HBO.out HTL.out)
                  clear k0 k1 k2
                  go_wp2_with fail
                  go_meet
                  case rel => exact ⟨_, _, _, HBQ, HLE, HCF⟩
          case rest =>
            obtain ⟨A2, ac2, T2, HB2, HL2, HC2⟩ := hcut
            clear HBO HBX HLE HLT HTL
            obtain ⟨wd, hwd⟩ : ∃ W, wc = W := ⟨_, rfl⟩
            subst hwd
            have HBC : Hid (∀ wx, Below wc.heap.size wc wx → Both B wx tb g rb A2 ac2 T2 ∧ Cells wx gb 37 [.int .i64 ok, .int .i64 on, .int .i64 tid.node, .int .i64 tid.epoch, .int .i64 tid.seq, .slice oA lq oac] ∧ Below B w1 wx ∧ B ≤ wx.heap.size ∧ IRow wx oA ol) := Lib.hid fun wx hb => ⟨HB2.out.1.later hb, HC2.out.later hb, HL2.out.1.trans (hb.mono HL2.out.2), Nat.le_trans HL2.out.2 hb.size, HIN.out wx (HL2.out.1.trans (hb.mono HL2.out.2))⟩
            have HTL : Hid (T2.length = n) := Lib.hid HB2.out.2
            have HOK2 : Hid (Tok T2) := Lib.hid HB2.out.1.code.ok
            have y5 := HC2.out.cell (j := 5) rfl
            clear HB2 HL2 HC2
            go_wp2_with fail
            clear y5
            go_loopw [10, 12, 103] (fun a _ i wr => ∃ (j : Nat) (bm : Bool), j ≤ lq ∧ i = .int .i64 (j : Int) ∧ a = .bool bm ∧ Hid (((ol.take j).all fun c => decide (oneE T2 tid c = 0)) = bm) ∧ Hid (Below wc.heap.size wc wr)) (fun _ _ i _ => lq - (intOf i).toNat)
            case atStart => exact ⟨0, true, Nat.zero_le _, rfl, rfl, Lib.hid rfl, Lib.hid (Below.refl _ _)⟩
            case round =>
              obtain ⟨j, bm, hj, rfl, rfl, HBM, HBR⟩ := hrel
              by_cases hjq : j < lq
              · have hjl : j < ol.length := by rw [HLQ.out]; exact hjq
                obtain ⟨bo, hcl, hb1, hb2, hir⟩ := HBC.out wr HBR.out
                obtain ⟨b5, off5, rfl, hc5⟩ := hir j hjl
                have htk : ol.take (j + 1) = ol.take j ++ [ol[j]] := List.take_succ_eq_append_getElem hjl
                obtain ⟨y, hy⟩ : ∃ y, ol[j] = y := ⟨_, rfl⟩
                rw [hy] at hc5 htk
                have HAL : Hid (((ol.take (j + 1)).all fun c => decide (oneE T2 tid c = 0)) = (bm && decide (oneE T2 tid y = 0))) := Lib.hid (by rw [htk, List.all_append, HBM.out, List.all_cons, List.all_nil, Bool.and_true])
                have HASK := Lib.hid (ROne_ask bo.doc tid 0 y)
                obtain ⟨ev, hev⟩ : ∃ e, oneE T2 tid y = e := ⟨_, rfl⟩
                rw [hev] at HASK HAL
                have z2 := hcl.cell (j := 2) rfl
                have z3 := hcl.cell (j := 3) rfl
                have z4 := hcl.cell (j := 4) rfl
                clear hjl bo hcl hb1 hb2 hir htk hy hev HBM
                cases bm with
                | false =>
                  have HAL2 := Lib.hid (HAL.out.trans (Bool.false_and _))
                  clear HASK
                  go_wp2_with fail
                  go_roundw
                  case rel => exact ⟨j + 1, false, by omega, by go_num, rfl, HAL2, HBR⟩
                  case measure => simp [intOf]; omega
                | true =>
                  have HAL2 := Lib.hid (HAL.out.trans (Bool.true_and _))
                  go_wp2_with fail
                  refine HASK.out.mono ?_
                  rintro e w5 ⟨rfl, hb5⟩
                  have HB5 := Lib.hid (HBR.out.trans (hb5.mono HBR.out.size))
                  clear hb5 HASK z2 z3 z4 hc5
                  by_cases hev : ev = 0
                  · have e5 : (ev == 0) = true := by simpa using hev
                    have HAL3 := Lib.hid (HAL2.out.trans (decide_eq_true hev))
                    clear hev
                    go_wp2_with fail
                    go_roundw
                    case rel => exact ⟨j + 1, true, by omega, by go_num, rfl, HAL3, HB5⟩
                    case measure => simp [intOf]; omega
                  · have e5 : (ev == 0) = false := by simpa using hev
                    have HAL3 := Lib.hid (HAL2.out.trans (decide_eq_false hev))
                    clear hev
                    go_wp2_with fail
                    go_roundw
                    case rel => exact ⟨j + 1, false, by omega, by go_num, rfl, HAL3, HB5⟩
                    case measure => simp [intOf]; omega
              · obtain rfl : lq = j := by omega
                have hbm : mayT T2 tid ol = bm := by
                  have h3 := HBM.out
                  rw [List.take_of_length_le (Nat.le_of_eq HLQ.out)] at h3
                  rw [may_one]
                  exact h3
                have HMB := Lib.hid hbm
                clear HBM hbm hj hjq
                obtain ⟨we, hwe⟩ : ∃ W, wr = W := ⟨_, rfl⟩
                rw [hwe] at HBR ⊢
                clear hwe
                have HBE2 : Hid (∀ wx, Below we.heap.size we wx → Both B wx tb g rb A2 ac2 T2 ∧ Cells wx gb 37 [.int .i64 ok, .int .i64 on, .int .i64 tid.node, .int .i64 tid.epoch, .int .i64 tid.seq, .slice oA lq oac] ∧ Below B w1 wx ∧ B ≤ wx.heap.size ∧ IRow wx oA ol) := Lib.hid fun wx hb => HBC.out wx (HBR.out.trans (hb.mono HBR.out.size))
                clear HBC HBR
                obtain ⟨ct, hct⟩ : ∃ x, cntT T2 = x := ⟨_, rfl⟩
                have hdl : (docR T2).l.length = ct := by rw [← hct]; exact docF_len T2 0
                have HDL := Lib.hid hdl
                have HBY : Hid (∀ wx, Below we.heap.size we wx → Cells wx gb 37 [.int .i64 ok, .int .i64 on, .int .i64 tid.node, .int .i64 tid.epoch, .int .i64 tid.seq, .slice oA lq oac]) := Lib.hid fun wx hb => (HBE2.out wx hb).2.1
                have HR1 : Hid (∀ wx, Below we.heap.size we wx → wx.cell? ⟨rb, 1, none⟩ = some (.slice A2 ct ac2)) := Lib.hid fun wx hb => by
                  have h5 := (HBE2.out wx hb).1.doc.cel.cell (j := 1) rfl
                  rw [HDL.out] at h5
                  exact h5
                have HMAY : Hid (∀ wx, Below we.heap.size we wx → Calls Try.prog 17 #[.pointer (some ⟨tb, 0, none⟩), .agg #[.int .i64 tid.node, .int .i64 tid.epoch, .int .i64 tid.seq], .slice oA lq oac] wx fun e w' => e = .returned (.bool bm) ∧ Below wx.heap.size wx w') := Lib.hid fun wx hb => by
                  have h4 := HBE2.out wx hb
                  have h5 := May_any h4.1.code tid (lc := oac) h4.2.2.2.2 (by rw [HLQ.out]; omega)
                  rw [HLQ.out, HMB.out] at h5
                  exact h5
                have HHLD : Hid (∀ wx, Below we.heap.size we wx → Calls Try.prog 18 #[.pointer (some ⟨tb, 0, none⟩)] wx fun e w' => e = .returned (.int .i64 (ct : Int)) ∧ Below wx.heap.size wx w') := Lib.hid fun wx hb => by
                  have h5 := Held_any (HBE2.out wx hb).1.code
                  rw [hct] at h5
                  exact h5
                have HMT : Hid ((bm != bm) = false) := Lib.hid (by simp)
                have HCT : Hid (((ct : Int) != (ct : Int)) = false) := Lib.hid (by simp)
                have hct16 : ct ≤ 16 := by rw [← hct]; exact Nat.le_trans (cnt_le T2) HOK2.out.len
                clear hct hdl
                go_upto_region 30 with (fail)
                refine Reg.region_heavy (by kernel_rfl) 17 [17] (leaPl30 tb rb gb ct lq oac ac2 A2 oA bm tid) (fun a => Below we.heap.size we a) (fun a => Below we.heap.size we a) (fun V => [(some 117, V 0), (some 118, V 1), (some 119, V 2), (some 120, V 3), (some 121, V 4), (some 122, V 5), (some 123, V 6), (some 124, V 7), (some 125, V 8), (some 126, V 9), (some 127, V 10), (some 128, V 11), (some 129, V 12), (some 130, V 13), (some 131, V 14), (some 132, V 15), (some 133, V 16), (some 134, V 17)]) (by kernel_rfl) (by kernel_rfl) (by kernel_rfl) (fun V => rfl) ?_ ?_ ?_
                · exact (Below.refl _ _).drew
                · intro i o ho
                  have hi : i < 18 := (Array.getElem?_eq_some_iff.1 ho).1
                  rcases i with _ | _ | _ | _ | _ | _ | _ | _ | _ | _ | _ | _ | _ | _ | _ | _ | _ | _ | i
                  rotate_right
                  · omega
                  all_goals obtain rfl := Option.some.inj ho
                  all_goals intro ρ wi hE hI hs hd
                  all_goals try dsimp only at hI
                  · have e5 : ρ (.tmp 5) = .pointer (some ⟨tb, 0, none⟩) := hs 5; exact Reg.gw hI
                  · have e9 : ρ (.tmp 9) = .pointer (some ⟨gb, 0, none⟩) := hs 9; exact Reg.gw hI
                  · obtain ⟨_, rfl, e118⟩ := hd 1 118; have hq := HBY.out wi hI; have q2 := hq.cell (j := 2) rfl; have q3 := hq.cell (j := 3) rfl; have q4 := hq.cell (j := 4) rfl; exact Reg.gw hI
                  · have e9 : ρ (.tmp 9) = .pointer (some ⟨gb, 0, none⟩) := hs 9; exact Reg.gw hI
                  · obtain ⟨_, rfl, e120⟩ := hd 3 120; have q5 := (HBY.out wi hI).cell (j := 5) rfl; exact Reg.gw hI
                  · obtain ⟨_, rfl, e117⟩ := hd 0 117; obtain ⟨_, rfl, e119⟩ := hd 2 119; obtain ⟨_, rfl, e121⟩ := hd 4 121; have hf := hE.func
                    refine Reg.Gives.call (f := 17) (args := #[.pointer (some ⟨tb, 0, none⟩), .agg #[.int .i64 tid.node, .int .i64 tid.epoch, .int .i64 tid.seq], .slice oA lq oac]) (w' := wi) (by go_simp) ?_
                    refine (HMAY.out wi hI).mono ?_
                    rintro e w'' ⟨rfl, hbb⟩
                    exact ⟨_, rfl, ⟨rfl, hI.trans (hbb.mono hI.size), fun j u _ _ h => leaPl30_later hbb h⟩⟩
                  · have e10 : ρ (.tmp 10) = .bool bm := hs 10; exact Reg.gw hI
                  · obtain ⟨_, rfl, e122⟩ := hd 5 122; obtain ⟨_, rfl, e123⟩ := hd 6 123; have z1 := HMT.out; exact Reg.gw hI
                  · obtain ⟨_, rfl, e124⟩ := hd 7 124; exact Reg.gw hI
                  · have e5 : ρ (.tmp 5) = .pointer (some ⟨tb, 0, none⟩) := hs 5
                    refine Reg.yes ?_
                    exact Reg.gw hI
                  · obtain ⟨_, rfl, e126⟩ := hd 9 126; have hf := hE.func
                    refine Reg.yes ?_
                    refine Reg.Gives.call (f := 18) (args := #[.pointer (some ⟨tb, 0, none⟩)]) (w' := wi) (by go_simp) ?_
                    refine (HHLD.out wi hI).mono ?_
                    rintro e w'' ⟨rfl, hbb⟩
                    exact ⟨_, rfl, ⟨rfl, hI.trans (hbb.mono hI.size), fun j u _ _ h => leaPl30_later hbb h⟩⟩
                  · have e7 : ρ (.tmp 7) = .pointer (some ⟨rb, 0, none⟩) := hs 7
                    refine Reg.yes ?_
                    exact Reg.gw hI
                  · obtain ⟨_, rfl, e128⟩ := hd 11 128
                    refine Reg.yes ?_
                    exact Reg.gw hI
                  · obtain ⟨_, rfl, e129⟩ := hd 12 129
                    refine Reg.yes ?_
                    exact Reg.gw hI
                  · obtain ⟨_, rfl, e130⟩ := hd 13 130
                    refine Reg.yes ?_
                    have x1 := HR1.out wi hI; exact Reg.gw hI
                  · obtain ⟨_, rfl, e131⟩ := hd 14 131
                    refine Reg.yes ?_
                    exact Reg.gw hI
                  · obtain ⟨_, rfl, e127⟩ := hd 10 127; obtain ⟨_, rfl, e132⟩ := hd 15 132
                    refine Reg.yes ?_
                    have z1 := HCT.out; exact Reg.gw hI
                  · obtain ⟨_, rfl, e125⟩ := hd 8 125; obtain ⟨_, rfl, e133⟩ := hd 16 133; have hc := hE.const; exact Reg.gw hI
                · intro V wf hV hI
                  have hV17 : V 17 = .bool false := hV 17 (by decide) rfl
                  simp only [Reg.putsO, List.foldl_cons, List.foldl_nil, Act.put, List.setIfInBounds_toArray, List.set_cons_succ, List.set_cons_zero, hV17]
                  replace hI : (fun a => Below we.heap.size we a) wf := hI
                  clear hV hV17
                  have HBF : Hid (∀ wx, Below wf.heap.size wf wx → Both B wx tb g rb A2 ac2 T2 ∧ Below B w1 wx ∧ B ≤ wx.heap.size) := Lib.hid fun wx hb => by
                    have h4 := HBE2.out wx (hI.trans (hb.mono hI.size))
                    exact ⟨h4.1, h4.2.2.1, h4.2.2.2.1⟩
                  clear hI HBE2 HBY HR1 HMAY HHLD HMT HCT HMB
                  obtain ⟨wg, hwg⟩ : ∃ W, wf = W := ⟨_, rfl⟩
                  subst hwg
                  go_wp2_with fail
                  go_loopw [13, 14, 15, 16] (fun a _ _ _ wr => ∃ c : Int, -1 ≤ c ∧ c ≤ (n : Int) + 1 ∧ a = .int .i64 c ∧ Hid (Below wf.heap.size wf wr)) (fun a _ _ _ _ => ((n : Int) + 2 - intOf a).toNat)
                  case atStart => exact ⟨-1, by omega, by omega, rfl, Lib.hid (Below.refl _ _)⟩
                  case round =>
                    obtain ⟨c, hc1, hc2, rfl, HBR⟩ := hrel
                    have hwc : IntKind.i64.wrap (c + 1) = c + 1 := IntWalk.i64_in _ (by omega)
                    by_cases hcn : c ≤ (n : Int)
                    · have e5 : decide (c ≤ (n : Int)) = true := decide_eq_true hcn
                      have HOF := Lib.hid (Of_any (HBF.out wr HBR.out).1.code c)
                      have hfr := HOK2.out.of c
                      have hat := atD_doc T2 c
                      obtain ⟨s, hs⟩ : ∃ s, ofT T2 c = s := ⟨_, rfl⟩
                      rw [hs] at HOF hfr hat
                      clear hs
                      unfold ofV at HOF
                      go_wp2_with fail
                      refine HOF.out.mono ?_
                      rintro e w4 ⟨rfl, hb4⟩
                      obtain ⟨w5, hw5⟩ : ∃ W, W = w4.alloc (.cells #[.int .i64 s.tid.node, .int .i64 s.tid.epoch, .int .i64 s.tid.seq, .int .i64 s.til] 48) := ⟨_, rfl⟩
                      have hb5 : Below w4.heap.size w4 w5 := by rw [hw5]; exact below_alloc _ _
                      have hc5 : Cells w5 w4.heap.size 48 (hvals s) := by rw [hw5]; exact cells_new _ _ _ _ rfl
                      obtain ⟨xb, hxb⟩ : ∃ x, w4.heap.size = x := ⟨_, rfl⟩
                      have hb45 := HBR.out.trans ((hb4.trans (hb5.mono hb4.size)).mono HBR.out.size)
                      rw [hxb] at hc5
                      have y0 := hc5.cell (j := 0) rfl
                      have y1 := hc5.cell (j := 1) rfl
                      have y2 := hc5.cell (j := 2) rfl
                      have y3 := hc5.cell (j := 3) rfl
                      have hbo := (HBF.out w5 hb45).1
                      have HAT := Lib.hid (RAt_any hbo.doc c)
                      have r1 := hbo.doc.cel.cell (j := 1) rfl
                      rw [HDL.out] at r1
                      have HB5 := Lib.hid hb45
                      clear hb4 hb5 hc5 hb45 HOF HBR
                      go_upto_region 36 with (fail)
                      rw [← hw5]
                      try rw [hxb]
                      clear hw5 hxb
                      rcases hat with ⟨h1, h2⟩ | ⟨kx, hk, h1, h2, h3, _⟩
                      · have h1 : atD c (docR T2).l 0 = -1 := h1
                        rw [h1] at HAT
                        have hsz := hfr h2
                        subst hsz
                        have hq : ∀ W, (binOp .neq 48 (.agg #[.int .i64 0, .int .i64 0, .int .i64 0, .int .i64 0]) (.agg #[.int .i64 0, .int .i64 0, .int .i64 0, .int .i64 0])).run Try.prog W = .ok (.bool false) W := fun W => by kernel_rfl
                        clear hfr h1 h2 hbo r1
                        unfold sv0 at y0 y1 y2 y3
                        dsimp only at y0 y1 y2 y3
                        unfold sv0
                        go_wp2_with fail
                        refine HAT.out.mono ?_
                        rintro e w6 ⟨rfl, hw6⟩
                        rw [hw6]
                        clear hw6 HAT
                        go_wp2_with fail
                        go_quiet (fail)
                        generalize hw6 : World.drewN w5 _ = w6
                        have HB6 : Hid (Below wf.heap.size wf w6) := Lib.hid (by rw [← hw6]; exact HB5.out.trans ((below_dr w5 _).mono HB5.out.size))
                        clear hw6 HB5 y0 y1 y2 y3 hq
                        go_wp2_with fail
                        go_roundw
                        case rel => exact ⟨c + 1, by omega, by omega, by first | rfl | go_num | trivial, HB6⟩
                        case measure => simp [intOf]; omega
                      · have h1 : atD c (docR T2).l 0 = (kx : Int) := h1
                        rw [h1] at HAT
                        obtain ⟨g2, hA2, hrg, hzz⟩ := hbo.doc.at (k := kx) hk
                        have hg : (docR T2).l[kx]'hk = ⟨c, s.tid, s.til⟩ := h3
                        rw [hg] at hrg
                        have hkc : kx < ct := by rw [← HDL.out]; exact hk
                        have hkc2 : (kx : Int) < (ct : Int) := by omega
                        have hk0 : (0 : Int) ≤ (kx : Int) := by omega
                        have x1 := hrg 1 _ rfl
                        have x2 := hrg 2 _ rfl
                        have x3 := hrg 3 _ rfl
                        have x4 := hrg 4 _ rfl
                        dsimp only at x1 x2 x3 x4
                        rw [hA2] at r1
                        have hq := lt_neq s.tid s.tid
                        rw [decide_eq_true rfl] at hq
                        have e6 : (s.til != s.til) = false := by simp
                        rw [h2]
                        clear hfr h1 h2 h3 hbo hk hA2 hrg hzz hg
                        go_wp2_with fail
                        refine HAT.out.mono ?_
                        rintro e w6 ⟨rfl, hw6⟩
                        rw [hw6]
                        clear hw6 HAT
                        go_wp2_with fail
                        go_quiet (fail)
                        generalize hw6 : World.drewN w5 _ = w6
                        have HB6 : Hid (Below wf.heap.size wf w6) := Lib.hid (by rw [← hw6]; exact HB5.out.trans ((below_dr w5 _).mono HB5.out.size))
                        clear hw6 HB5 y0 y1 y2 y3 hq x1 x2 x3 x4 r1 e6
                        go_wp2_with fail
                        go_roundw
                        case rel => exact ⟨c + 1, by omega, by omega, by first | rfl | go_num | trivial, HB6⟩
                        case measure => simp [intOf]; omega
                    · have e5 : decide (c ≤ (n : Int)) = false := decide_eq_false hcn
                      have HBN : Hid (∃ A ac T, Both B wr tb g rb A ac T ∧ T.length = n) := Lib.hid ⟨_, _, _, (HBF.out wr HBR.out).1, HTL.out⟩
                      have HLN : Hid (Below B w1 wr ∧ B ≤ wr.heap.size) := Lib.hid (HBF.out wr HBR.out).2
                      go_wp2_with fail
                      go_roundw
                      case rel => exact ⟨k + 1, by omega, by go_num, HBN, HLN⟩
                      case measure => simp [intOf]; omega
        · obtain rfl : k = N := by omega
          go_wp2_with fail
          go_returns
          exact ⟨rfl, HB1.out.trans (HLO.out.1.mono (by rw [← HBE.out]; exact HB1.out.size))⟩
theorem opened {H : Type} {enc : TypeId × Value → H} {W : World} {base : Nat} {gs : List (DataW H)} (v0 : Value) (d0 : DataW H) (p0 : List MemPlace) (v1 : Value) (d1 : DataW H) (p1 : List MemPlace)
    (o0 : Value.okWide Try.prog W .any base 3 v0) (t0 : DataW.Trod enc Try.prog W 0 (fun _ => true) true 3 v0 d0 p0)
    (o1 : Value.okWide Try.prog W .any base 22 v1) (t1 : DataW.Trod enc Try.prog W 0 (fun _ => true) true 22 v1 d1 p1)
    (hsz : (DataW.weightsEach Try.prog ([3, 22] ++ []) ([d0, d1] ++ gs)).all (· ≤ reachBytes) = true) :
    Calls Try.prog 3 #[v0, v1] W fun e W' => e = .returned (.bool true) ∧ Below W.heap.size W W' := by
  obtain ⟨n, rfl, _⟩ := arg_int o0 t0
  obtain ⟨a0, len, cap, rfl⟩ := okWide_slice Try.underlying22 o1
  obtain ⟨A, os, cap', e, h3, h4⟩ := came_ops (came_of t1 (Base.small_of hsz (j := 1) rfl rfl) (by simp [Value.cells]))
  rw [e]
  exact walk n A os cap' W h3 h4

theorem contract (H : Type) (enc : TypeId × Value → H) (W : World) (base : Nat) (args : Array Value) (ds gs : List (DataW H)) (before : List MemPlace)
    (hval : ∀ (j : Nat) t v, Try.f3.params[j]? = some t → args[j]? = some v → Value.okWide Try.prog W .any base t v)
    (hW : DataW.Whole enc Try.prog Try.f3.params.toList Rows.leasePlaysSpec.vars false W args.toList ds gs before)
    (hsz : (DataW.weightsEach Try.prog (Try.f3.params.toList ++ []) (ds ++ gs)).all (· ≤ reachBytes) = true) :
    Calls Try.prog 3 args W fun e W' => ∃ v, e = .returned v ∧ Rows.leasePlaysSpec.post enc Try.prog Try.f3 false true false false W args v W' := by
  have hW0 := hW
  obtain ⟨p, q, hA0, hV, rfl, _, _⟩ := hW
  have hA : DataW.TrodAll enc Try.prog W 0 (fun _ => true) true Try.f3.params.toList args.toList ds p := hA0
  rw [Try.params3] at hA hval hsz
  obtain ⟨v0, vs0, d0, ds0, p0, q0, hargs, rfl, rfl, h0, r0⟩ := trodAll_cons hA
  obtain ⟨v1, vs1, d1, ds1, p1, q1, rfl, rfl, rfl, h1, r1⟩ := trodAll_cons r0
  obtain ⟨rfl, rfl, rfl⟩ := trodAll_nil r1
  obtain rfl : args = #[v0, v1] := by cases args; simp_all
  refine (opened v0 d0 p0 v1 d1 p1 (hval 0 3 v0 rfl rfl) h0 (hval 1 22 v1 rfl rfl) h1 hsz).mono fun e W' ⟨he, hb⟩ => ⟨_, he, ?_⟩
  exact Base.law_post (tb := 4) Base.laidOut (by kernel_rfl) rfl Try.underlying4 rfl (fun l hl => by
    rw [Try.params3] at hl
    match l, hl with
    | [_, _], _ => rfl) (by rw [Try.params3]; rfl) hW0 hb

theorem laid_met (os : Os) : laidMet Try.prog Rows.leasePlaysRow.laid ((Base.plainWorld os).forCall (fun _ _ => 0) ⟨#[], #[.int .i64 0, .slice none 0 0], []⟩).memory := laidMet_nil _ _
theorem reads (os : Os) {H : Type} (enc : TypeId × Value → H) : ∃ places, DataW.whole enc Try.prog ((Base.plainWorld os).forCall (fun _ _ => 0) ⟨#[], #[.int .i64 0, .slice none 0 0], []⟩).memory Try.f3.params.toList Rows.leasePlaysSpec.vars false (#[.int .i64 0, .slice none 0 0] : Array Value).toList 8 = some ([.lit (.int .i64 0), .nil], [], places) :=
  ⟨[], by kernel_rfl⟩

set_option maxRecDepth 100000 in
theorem lifted (os : Os) (started : os.Started) (H : Type) (enc : TypeId × Value → H) (F : Stop.Interp) :
    ReturnsInHanded {} Try.checked os 3 .any ((OpenSpec.ofChange Rows.leasePlaysSpec).preRow enc Try.prog Try.f3 Rows.leasePlaysRow.domain false Rows.leasePlaysRow.laid) (((OpenSpec.ofChange Rows.leasePlaysSpec).at F).post enc Try.prog Try.f3 false true false false) := by
  obtain ⟨places, hx⟩ := reads os enc
  refine returnsInHanded_of_row (C := Try.checked) (s := OpenSpec.ofChange Rows.leasePlaysSpec) Base.own started (by kernel_rfl) Try.func3
    (witness_row_at (enc := enc) (C := Try.checked) false (Base.plainWorld os) #[.int .i64 0, .slice none 0 0] rfl (by kernel_rfl) (by kernel_rfl) (by kernel_rfl)
      (OpenSpec.preRow_of_cond 8 hx (by kernel_rfl) (fun k hk => by cases hk) (by kernel_rfl) (laid_met os))) ?_
  intro W base args ds gs before hval hW _ _ hsz _ _ _
  exact contract H enc W base args ds gs before hval hW hsz

theorem said : Rows.LeasePlaysSaid :=
  OpenClaim.holds_of_cond 3 Try.f3 rfl rfl rfl rfl rfl rfl rfl ⟨rfl, rfl, rfl, rfl, rfl⟩ rfl rfl rfl rfl rfl (by kernel_rfl) Try.func3 (by kernel_rfl)
    (of_decide_eq_true (by kernel_rfl)) (by unfold Func.isWrapper; rw [if_neg (of_decide_eq_false (by kernel_rfl))]; exact ⟨rfl, rfl⟩)
    (fun os started H enc _ F => by rw [OpenClaim.pre_eq_preRow]; exact lifted os started H enc F)
#print axioms said
end Go.Proofs.Ytiobblmagjbhjaa.LeasePlays
