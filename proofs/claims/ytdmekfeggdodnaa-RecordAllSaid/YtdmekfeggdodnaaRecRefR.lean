/-
  Layer 7: is a record right? The document's answer. Conditions: none.
-/
import Derived.Test.YtdmekfeggdodnaaRecRefA
import Derived.Test.YtdmekfeggdodnaaRecSame
import Derived.Test.YtdmekfeggdodnaaItemNodes
import Derived.Deep.CutBlock
namespace Go.Proofs.Ytdmekfeggdodnaa.Rec
set_option maxRecDepth 100000
open Go.RowKit Go.Proofs.Ytdmekfeggdodnaa.Mem Go.Proofs.Ytdmekfeggdodnaa.Item

/-- Has it a number that its kind hasn't? -/
def p2 (r : Rc) : Bool := (List.range 8).any fun m => !decide (((m : Int) + 1) ∈ rl r.kind) && decide (r.get m ≠ 0)
def p2K (r : Rc) (j : Nat) : Bool := (List.range j).any fun m => !decide (((m : Int) + 1) ∈ rl r.kind) && decide (r.get m ≠ 0)
def p3 (nm tz rt e6 e11 yes : Bool) : Bool := (!nm && tz) || (nm && !rt) || (!e6 && !e11 && yes)
def p4 (e4 e5 bL bM : Bool) : Bool := !e4 && !e5 && (bL || bM)
def p5 (e4 bL ri rn : Bool) : Bool := ((e4 || bL) && !ri) || !rn
def p6 (hc c1 c2 h1 h2 g8 h0 : Bool) : Bool := hc && (c1 || c2 || h1 || h2 || (g8 && h0))
def p7 (v1 v2 : Bool) : Bool := v1 || v2
def pEnd (r : Rc) : Bool :=
  if r.kind = 1 then decide (1 ≤ r.count ∧ r.count ≤ 16 ∧ 1 ≤ r.node ∧ r.node ≤ r.count ∧ 1 ≤ r.num ∧ r.num ≤ 16) else if r.kind = 2 then decide (1 ≤ r.num ∧ r.num ≤ 1099511627776) else if r.kind = 8 then decide (1 ≤ r.node ∧ r.node ≤ 16)
  else if r.kind = 3 then decide (0 ≤ r.status ∧ r.status ≤ 2 ∧ ((r.status = 2 ∧ 1 ≤ r.node ∧ r.node ≤ 16) ∨ (r.status < 2 ∧ r.node = 0))) else true
def refRight (r : Rc) : Bool := decide (1 ≤ r.kind ∧ r.kind ≤ 12) && (!p2K r 8 && (!p3 (named r.kind) (!t0B r.tid) (rightTid r.tid) (r.kind == 6) (r.kind == 11) r.yes && (!p4 (r.kind == 4) (r.kind == 5) (decide (0 < r.items.length)) (decide (0 < r.nodes.length)) && (!p5 (r.kind == 4) (decide (0 < r.items.length)) (rightItems r.items) (rightNodes r.nodes) && (!p6 (decide ((4 : Int) ∈ rl r.kind)) (decide (r.cell < 0)) (decide (15 < r.cell)) (decide (r.hop < 0)) (decide (1099511627776 < r.hop)) (decide (8 ≤ r.kind)) (r.hop == 0) && (!p7 (decide (r.version < 0)) (decide (1099511627776 < r.version)) && pEnd r))))))
theorem p2K_succ (r : Rc) (j : Nat) : p2K r (j + 1) = (p2K r j || (!decide (((j : Int) + 1) ∈ rl r.kind) && decide (r.get j ≠ 0))) := by unfold p2K; rw [List.range_succ, List.any_append]; simp
theorem p2K_true (r : Rc) (j : Nat) (h : p2K r j = true) (hj : j ≤ 8) : p2K r 8 = true := by
  unfold p2K at h ⊢
  rw [List.any_eq_true] at h ⊢
  obtain ⟨x, hx, h⟩ := h
  exact ⟨x, List.mem_range.2 (by have := List.mem_range.1 hx; omega), h⟩

set_option maxHeartbeats 4000000 in
theorem refRight_any (r : Rc) (y : Lay) (w : World) (h : Has w r y) (h1 : r.items.length ≤ 1000) (h2 : r.nodes.length ≤ 1000) :
    Calls Try.prog 54 #[r.val y] w fun e w' => e = .returned (.bool (refRight r)) ∧ Below w.heap.size w w' := by
  have HFL := Lib.hid (fun w' (hk : 1 ≤ r.kind ∧ r.kind ≤ 12) => refFields_any r.kind w' hk)
  have HNM := Lib.hid (fun f (hf : f < 8) w' => number_any r y f w' hf)
  have HNA := Lib.hid (fun w' => refNamed_any r.kind w')
  have HRT := Lib.hid (fun w' => refRightTid_any r.tid w')
  have HRI := Lib.hid (fun w' (hb : Below w.heap.size w w') => refRightItems_any y.A r.items y.c w' (h.items.later hb) (by omega))
  have HRN := Lib.hid (fun w' (hb : Below w.heap.size w w') => refRightNodes_any y.B r.nodes y.d w' (h.nodes.later hb) (by omega))
  have HTN := tid_neq r.tid.node r.tid.epoch r.tid.seq 0 0 0
  have HPS := Lib.hid (p2K_succ r)
  have HPT := Lib.hid (p2K_true r)
  have HP0 : Hid (p2K r 0 = false) := Lib.hid rfl
  have HZ : Hid (refRight r = (decide (1 ≤ r.kind ∧ r.kind ≤ 12) && (!p2K r 8 && (!p3 (named r.kind) (!t0B r.tid) (rightTid r.tid) (r.kind == 6) (r.kind == 11) r.yes && (!p4 (r.kind == 4) (r.kind == 5) (decide (0 < r.items.length)) (decide (0 < r.nodes.length)) && (!p5 (r.kind == 4) (decide (0 < r.items.length)) (rightItems r.items) (rightNodes r.nodes) && (!p6 (decide ((4 : Int) ∈ rl r.kind)) (decide (r.cell < 0)) (decide (15 < r.cell)) (decide (r.hop < 0)) (decide (1099511627776 < r.hop)) (decide (8 ≤ r.kind)) (r.hop == 0) && (!p7 (decide (r.version < 0)) (decide (1099511627776 < r.version)) && pEnd r)))))))) := Lib.hid rfl
  have HRL := Lib.hid (rl_len r.kind)
  clear h
  obtain ⟨Z, hz⟩ : ∃ Z, refRight r = Z := ⟨_, rfl⟩
  obtain ⟨PE, hpe⟩ : ∃ PE, pEnd r = PE := ⟨_, rfl⟩
  have HPE : Hid (PE = pEnd r) := Lib.hid hpe.symm
  unfold pEnd at HPE
  obtain ⟨nm, hnm⟩ : ∃ nm, named r.kind = nm := ⟨_, rfl⟩
  obtain ⟨rt, hrt⟩ : ∃ rt, rightTid r.tid = rt := ⟨_, rfl⟩
  obtain ⟨ri, hri⟩ : ∃ ri, rightItems r.items = ri := ⟨_, rfl⟩
  obtain ⟨rn, hrn⟩ : ∃ rn, rightNodes r.nodes = rn := ⟨_, rfl⟩
  obtain ⟨P2, hP2⟩ : ∃ P2, p2K r = P2 := ⟨_, rfl⟩
  obtain ⟨G, hG⟩ : ∃ G, r.get = G := ⟨_, rfl⟩
  obtain ⟨FL, hFL⟩ : ∃ FL, rl r.kind = FL := ⟨_, rfl⟩
  obtain ⟨hc4, hhc⟩ : ∃ hc4, decide ((4 : Int) ∈ FL) = hc4 := ⟨_, rfl⟩
  obtain ⟨tz, htz⟩ : ∃ tz, (!t0B r.tid) = tz := ⟨_, rfl⟩
  have htz2 : (!(decide (r.tid.node = 0) && decide (r.tid.epoch = 0) && decide (r.tid.seq = 0))) = tz := htz
  rw [htz2] at HTN
  rw [hz, hpe, hnm, hrt, hri, hrn, hP2, htz, hFL, hhc] at HZ
  rw [hz]
  rw [hnm] at HNA
  rw [hrt] at HRT
  rw [hri] at HRI
  rw [hrn] at HRN
  simp only [hP2, hG, hFL] at HPS HPT HP0 HNM HFL HRL
  have HHC := Lib.hid hhc
  have hrl := HRL.out
  clear hz hpe hnm hrt hri hrn hP2 hG hFL hhc htz htz2
  obtain ⟨k, ⟨t1, t2, t3⟩, its, nds, a0, a1, a2, a3, a4, a5, a6, a7, yes⟩ := r
  obtain ⟨A, c, B, d⟩ := y
  simp only at HFL HNA HRT HRI HRN HTN HZ HPE h1 h2
  obtain ⟨L, hLL⟩ : ∃ L, its.length = L := ⟨_, rfl⟩
  obtain ⟨M, hMM⟩ : ∃ M, nds.length = M := ⟨_, rfl⟩
  unfold Rc.val at HNM ⊢
  unfold Tid.val at HRT
  simp only [hLL, hMM] at HNM HRI HRN HZ h1 h2 ⊢
  clear hLL hMM
  obtain ⟨e6, he6⟩ : ∃ e6, (k == 6) = e6 := ⟨_, rfl⟩
  rw [he6] at HZ
  have He6 := Lib.hid he6
  clear he6
  obtain ⟨e11, he11⟩ : ∃ e11, (k == 11) = e11 := ⟨_, rfl⟩
  rw [he11] at HZ
  have He11 := Lib.hid he11
  clear he11
  obtain ⟨e4, he4⟩ : ∃ e4, (k == 4) = e4 := ⟨_, rfl⟩
  rw [he4] at HZ
  have He4 := Lib.hid he4
  clear he4
  obtain ⟨e5, he5⟩ : ∃ e5, (k == 5) = e5 := ⟨_, rfl⟩
  rw [he5] at HZ
  have He5 := Lib.hid he5
  clear he5
  obtain ⟨bL, hbL⟩ : ∃ bL, (decide (0 < L)) = bL := ⟨_, rfl⟩
  rw [hbL] at HZ
  have HbL := Lib.hid hbL
  clear hbL
  obtain ⟨bM, hbM⟩ : ∃ bM, (decide (0 < M)) = bM := ⟨_, rfl⟩
  rw [hbM] at HZ
  have HbM := Lib.hid hbM
  clear hbM
  obtain ⟨c1, hc1⟩ : ∃ c1, (decide (a3 < 0)) = c1 := ⟨_, rfl⟩
  rw [hc1] at HZ
  have Hc1 := Lib.hid hc1
  clear hc1
  obtain ⟨c2, hc2⟩ : ∃ c2, (decide (15 < a3)) = c2 := ⟨_, rfl⟩
  rw [hc2] at HZ
  have Hc2 := Lib.hid hc2
  clear hc2
  obtain ⟨x1, hx1⟩ : ∃ x1, (decide (a5 < 0)) = x1 := ⟨_, rfl⟩
  rw [hx1] at HZ
  have Hx1 := Lib.hid hx1
  clear hx1
  obtain ⟨x2, hx2⟩ : ∃ x2, (decide (1099511627776 < a5)) = x2 := ⟨_, rfl⟩
  rw [hx2] at HZ
  have Hx2 := Lib.hid hx2
  clear hx2
  obtain ⟨g8, hg8⟩ : ∃ g8, (decide (8 ≤ k)) = g8 := ⟨_, rfl⟩
  rw [hg8] at HZ
  have Hg8 := Lib.hid hg8
  clear hg8
  obtain ⟨x0, hx0⟩ : ∃ x0, (a5 == 0) = x0 := ⟨_, rfl⟩
  rw [hx0] at HZ
  have Hx0 := Lib.hid hx0
  clear hx0
  obtain ⟨v1, hv1⟩ : ∃ v1, (decide (a6 < 0)) = v1 := ⟨_, rfl⟩
  rw [hv1] at HZ
  have Hv1 := Lib.hid hv1
  clear hv1
  obtain ⟨v2, hv2⟩ : ∃ v2, (decide (1099511627776 < a6)) = v2 := ⟨_, rfl⟩
  rw [hv2] at HZ
  have Hv2 := Lib.hid hv2
  clear hv2
  have HB := Lib.hid (below_alloc w (.cells #[.int .i64 k, .int .i64 t1, .int .i64 t2, .int .i64 t3, .slice A L c, .slice B M d, .int .i64 a0, .int .i64 a1, .int .i64 a2, .int .i64 a3, .int .i64 a4, .int .i64 a5, .int .i64 a6, .int .i64 a7, .bool yes] 39))
  have HC := Lib.hid (cells_new w 39 _ #[.int .i64 k, .int .i64 t1, .int .i64 t2, .int .i64 t3, .slice A L c, .slice B M d, .int .i64 a0, .int .i64 a1, .int .i64 a2, .int .i64 a3, .int .i64 a4, .int .i64 a5, .int .i64 a6, .int .i64 a7, .bool yes] rfl)
  by_cases hk1 : k < 1
  · have HZ2 : Hid (Z = false) := Lib.hid (by rw [HZ.out, decide_eq_false (by omega)]; rfl)
    go_enter Try.func54, Try.ntmps54
    go_wp2_with fail
    go_returns
    exact ⟨ret_bool HZ2.out, HB.out⟩
  by_cases hk2 : 12 < k
  · have HZ2 : Hid (Z = false) := Lib.hid (by rw [HZ.out, decide_eq_false (by omega)]; rfl)
    go_enter Try.func54, Try.ntmps54
    go_wp2_with fail
    go_returns
    exact ⟨ret_bool HZ2.out, HB.out⟩
  have hk : 1 ≤ k ∧ k ≤ 12 := by omega
  rw [decide_eq_true hk, Bool.true_and] at HZ
  have HKK := Lib.hid hk
  clear hk
  go_enter Try.func54, Try.ntmps54
  go_wp2_with fail
  refine (HFL.out _ HKK.out).mono ?_
  rintro e w1 ⟨FA, fc, rfl, hnu, _, hb1⟩
  have HB1 := Lib.hid (HB.out.trans (hb1.mono HB.out.size))
  have HC1 := Lib.hid (HC.out.later hb1)
  have HNU := Lib.hid hnu
  clear hnu hb1 hk1 hk2
  go_wp2_with fail
  go_loopw [5] (fun i wr => ∃ j : Nat, j ≤ 8 ∧ i = .int .i64 ((j + 1 : Nat) : Int) ∧ Hid (P2 j = false) ∧ Below w1.heap.size w1 wr) (fun i _ => 9 - (intOf i).toNat)
  case atStart => exact ⟨0, by omega, rfl, HP0, Below.refl _ _⟩
  case round =>
    obtain ⟨j, hj, rfl, hz, hbr⟩ := hrel
    have HBR := Lib.hid hbr
    have HNU2 := Lib.hid (HNU.out.later hbr)
    have HC2 := Lib.hid (HC1.out.later hbr)
    clear hbr
    by_cases hlt : j < 8
    · have HS := Lib.hid (HPS.out j)
      have HNJ := Lib.hid (HNM.out j hlt)
      have HHF := Lib.hid (fun w' hn => refHas_any FA FL fc ((j + 1 : Nat) : Int) w' hn (by omega))
      obtain ⟨hm, hhm⟩ : ∃ hm, decide ((((j + 1 : Nat) : Int)) ∈ FL) = hm := ⟨_, rfl⟩
      have hhm2 : decide (((j : Int) + 1) ∈ FL) = hm := by rw [← hhm]; simp
      rw [hhm2] at HS
      rw [hhm] at HHF
      clear hhm hhm2
      obtain ⟨f, hf⟩ : ∃ f, f = j + 1 := ⟨_, rfl⟩
      have HFJ := Lib.hid hf
      have hf9 : f ≤ 8 := by omega
      rw [← hf] at HHF HNJ ⊢
      clear hf
      have hcc := HC2.out
      have q0 := hcc.cell (j := 0) rfl
      have q1 := hcc.cell (j := 1) rfl
      have q2 := hcc.cell (j := 2) rfl
      have q3 := hcc.cell (j := 3) rfl
      have q4 := hcc.cell (j := 4) rfl
      have q5 := hcc.cell (j := 5) rfl
      have q6 := hcc.cell (j := 6) rfl
      have q7 := hcc.cell (j := 7) rfl
      have q8 := hcc.cell (j := 8) rfl
      have q9 := hcc.cell (j := 9) rfl
      have q10 := hcc.cell (j := 10) rfl
      have q11 := hcc.cell (j := 11) rfl
      have q12 := hcc.cell (j := 12) rfl
      have q13 := hcc.cell (j := 13) rfl
      have q14 := hcc.cell (j := 14) rfl
      clear hcc
      go_wp2_with fail
      refine (HHF.out _ HNU2.out).mono ?_
      rintro e w3 ⟨rfl, rfl⟩
      cases hm
      · go_wp2_with fail
        refine (HNJ.out _).mono ?_
        rintro e w3 ⟨rfl, hb3⟩
        have HB3 := Lib.hid (HBR.out.trans (hb3.mono HBR.out.size))
        clear hb3 q0 q1 q2 q3 q4 q5 q6 q7 q8 q9 q10 q11 q12 q13 q14
        obtain ⟨x, hx⟩ : ∃ x, G j = x := ⟨_, rfl⟩
        rw [hx] at HS ⊢
        clear hx
        by_cases h0 : x = 0
        · have HN : Hid (P2 (j + 1) = false) := Lib.hid (by rw [HS.out, hz.out, h0]; rfl)
          subst h0
          clear hz
          go_wp2_with fail
          go_roundw
          case rel => exact ⟨j + 1, by omega, by rw [HFJ.out]; go_num, HN, HB3.out⟩
          case measure => simp [intOf]; omega
        · have HN : Hid (P2 8 = true) := Lib.hid (HPT.out (j + 1) (by rw [HS.out, decide_eq_true h0]; simp) (by omega))
          have HZ2 : Hid (Z = false) := Lib.hid (by rw [HZ.out, HN.out]; rfl)
          have h0' : (x != 0) = true := by simp [h0]
          clear hz
          go_wp2_with fail
          go_returns
          exact ⟨ret_bool HZ2.out, HB1.out.trans (HB3.out.mono HB1.out.size)⟩
      · have HN : Hid (P2 (j + 1) = false) := Lib.hid (by rw [HS.out, hz.out]; rfl)
        clear hz q0 q1 q2 q3 q4 q5 q6 q7 q8 q9 q10 q11 q12 q13 q14
        go_wp2_with fail
        go_roundw
        case rel => exact ⟨j + 1, by omega, by rw [HFJ.out]; go_num, HN, HBR.out⟩
        case measure => simp [intOf]; omega
    · obtain rfl : j = 8 := by omega
      have hz3 := HZ.out
      rw [hz.out, Bool.not_false, Bool.true_and] at hz3
      have HZ3 := Lib.hid hz3
      clear hz3
      have HBW := Lib.hid (HB1.out.trans (HBR.out.mono HB1.out.size))
      have HNUr := Lib.hid HNU2.out
      have HHF := Lib.hid (fun w' (hn : Nums w' FA FL) => refHas_any FA FL fc 4 w' hn (by omega))
      rw [HHC.out] at HHF
      clear hz HZ HPS HPT HP0
      go_wp2_with fail
      refine (HNA.out _).mono ?_
      rintro e w4 ⟨rfl, rfl⟩
      have hcc := HC2.out
      have q0 := hcc.cell (j := 0) rfl
      have q1 := hcc.cell (j := 1) rfl
      have q2 := hcc.cell (j := 2) rfl
      have q3 := hcc.cell (j := 3) rfl
      have q4 := hcc.cell (j := 4) rfl
      have q5 := hcc.cell (j := 5) rfl
      have q6 := hcc.cell (j := 6) rfl
      have q7 := hcc.cell (j := 7) rfl
      have q8 := hcc.cell (j := 8) rfl
      have q9 := hcc.cell (j := 9) rfl
      have q10 := hcc.cell (j := 10) rfl
      have q11 := hcc.cell (j := 11) rfl
      have q12 := hcc.cell (j := 12) rfl
      have q13 := hcc.cell (j := 13) rfl
      have q14 := hcc.cell (j := 14) rfl
      clear hcc
      go_upto_region 11 with fail
      go_cut [61] from 33 to 61 (fun x wx => x = .bool (p3 nm tz rt e6 e11 yes) ∧ Below wr.heap.size wr wx)
      case first =>
        have g6 := He6.out
        have g11 := He11.out
        have g6n : (k != 6) = !e6 := by rw [← g6]; rfl
        have g11n : (k != 11) = !e11 := by rw [← g11]; rfl
        cases nm
        · cases tz
          · cases e6
            · cases e11
              · go_wp2_with fail
                go_meet
                exact ⟨by simp [p3], Below.refl _ _⟩
              · go_wp2_with fail
                go_meet
                exact ⟨by simp [p3], Below.refl _ _⟩
            · go_wp2_with fail
              go_meet
              exact ⟨by simp [p3], Below.refl _ _⟩
          · go_wp2_with fail
            go_meet
            exact ⟨by simp [p3], Below.refl _ _⟩
        · go_wp2_with fail
          refine (HRT.out _).mono ?_
          rintro e w5 ⟨rfl, hb5⟩
          have HB5 := Lib.hid hb5
          clear hb5
          cases rt
          · go_wp2_with fail
            go_meet
            exact ⟨by simp [p3], HB5.out⟩
          · cases e6
            · cases e11
              · have hcd := HC2.out.later HB5.out
                have cd0 := hcd.cell (j := 0) rfl
                have cd1 := hcd.cell (j := 1) rfl
                have cd2 := hcd.cell (j := 2) rfl
                have cd3 := hcd.cell (j := 3) rfl
                have cd4 := hcd.cell (j := 4) rfl
                have cd5 := hcd.cell (j := 5) rfl
                have cd6 := hcd.cell (j := 6) rfl
                have cd7 := hcd.cell (j := 7) rfl
                have cd8 := hcd.cell (j := 8) rfl
                have cd9 := hcd.cell (j := 9) rfl
                have cd10 := hcd.cell (j := 10) rfl
                have cd11 := hcd.cell (j := 11) rfl
                have cd12 := hcd.cell (j := 12) rfl
                have cd13 := hcd.cell (j := 13) rfl
                have cd14 := hcd.cell (j := 14) rfl
                clear hcd
                go_wp2_with fail
                go_meet
                exact ⟨by simp [p3], HB5.out⟩
              · go_wp2_with fail
                go_meet
                exact ⟨by simp [p3], HB5.out⟩
            · go_wp2_with fail
              go_meet
              exact ⟨by simp [p3], HB5.out⟩

      case rest =>
        obtain ⟨rfl, hbc⟩ := hcut
        obtain ⟨b3, hb3⟩ : ∃ b3, p3 nm tz rt e6 e11 yes = b3 := ⟨_, rfl⟩
        rw [hb3] at HZ3 ⊢
        clear hb3
        obtain ⟨wa, hwa⟩ : ∃ wa, wa = wc := ⟨_, rfl⟩
        rw [← hwa] at hbc ⊢
        have HBA := Lib.hid (HBW.out.trans (hbc.mono HBW.out.size))
        have HCA := Lib.hid (HC2.out.later hbc)
        have HNA2 := Lib.hid (HNUr.out.later hbc)
        have hcf := HCA.out
        have cp0 := hcf.cell (j := 0) rfl
        have cp1 := hcf.cell (j := 1) rfl
        have cp2 := hcf.cell (j := 2) rfl
        have cp3 := hcf.cell (j := 3) rfl
        have cp4 := hcf.cell (j := 4) rfl
        have cp5 := hcf.cell (j := 5) rfl
        have cp6 := hcf.cell (j := 6) rfl
        have cp7 := hcf.cell (j := 7) rfl
        have cp8 := hcf.cell (j := 8) rfl
        have cp9 := hcf.cell (j := 9) rfl
        have cp10 := hcf.cell (j := 10) rfl
        have cp11 := hcf.cell (j := 11) rfl
        have cp12 := hcf.cell (j := 12) rfl
        have cp13 := hcf.cell (j := 13) rfl
        have cp14 := hcf.cell (j := 14) rfl
        clear hcf hbc hwa q0 q1 q2 q3 q4 q5 q6 q7 q8 q9 q10 q11 q12 q13 q14
        cases b3
        · rw [Bool.not_false, Bool.true_and] at HZ3
          go_upto_region 13 with fail
          go_cut [79] from 62 to 79 (fun x wx => x = .bool (p4 e4 e5 bL bM) ∧ wx = wa)
          case first =>
            have g4 := He4.out
            have g5 := He5.out
            have g4n : (k != 4) = !e4 := by rw [← g4]; rfl
            have g5n : (k != 5) = !e5 := by rw [← g5]; rfl
            have gL := HbL.out
            have gM := HbM.out
            cases e4
            · cases e5
              · cases bL
                · go_wp2_with fail
                  go_meet
                  exact ⟨by simp [p4], rfl⟩
                · go_wp2_with fail
                  go_meet
                  exact ⟨by simp [p4], rfl⟩
              · go_wp2_with fail
                go_meet
                exact ⟨by simp [p4], rfl⟩
            · go_wp2_with fail
              go_meet
              exact ⟨by simp [p4], rfl⟩

          case rest =>
            obtain ⟨rfl, hwe⟩ := hcut
            replace hwe := hwe.symm
            subst hwe
            obtain ⟨b4, hb4⟩ : ∃ b4, p4 e4 e5 bL bM = b4 := ⟨_, rfl⟩
            rw [hb4] at HZ3 ⊢
            clear hb4

            cases b4
            · rw [Bool.not_false, Bool.true_and] at HZ3
              go_upto_region 15 with fail
              go_cut [99] from 80 to 99 (fun x wx => x = .bool (p5 e4 bL ri rn) ∧ Below wa.heap.size wa wx)
              case first =>
                have g4 := He4.out
                have gL := HbL.out
                cases e4
                · cases bL
                  · go_wp2_with fail
                    refine (HRN.out _ HBA.out).mono ?_
                    rintro e w6 ⟨rfl, hb6⟩
                    have HB6 := Lib.hid hb6
                    clear hb6
                    go_wp2_with fail
                    go_meet
                    exact ⟨by simp [p5], HB6.out⟩
                  · go_wp2_with fail
                    refine (HRI.out _ HBA.out).mono ?_
                    rintro e w6 ⟨rfl, hb6⟩
                    have HB6 := Lib.hid hb6
                    have hce := HCA.out.later hb6
                    have ce0 := hce.cell (j := 0) rfl
                    have ce1 := hce.cell (j := 1) rfl
                    have ce2 := hce.cell (j := 2) rfl
                    have ce3 := hce.cell (j := 3) rfl
                    have ce4 := hce.cell (j := 4) rfl
                    have ce5 := hce.cell (j := 5) rfl
                    have ce6 := hce.cell (j := 6) rfl
                    have ce7 := hce.cell (j := 7) rfl
                    have ce8 := hce.cell (j := 8) rfl
                    have ce9 := hce.cell (j := 9) rfl
                    have ce10 := hce.cell (j := 10) rfl
                    have ce11 := hce.cell (j := 11) rfl
                    have ce12 := hce.cell (j := 12) rfl
                    have ce13 := hce.cell (j := 13) rfl
                    have ce14 := hce.cell (j := 14) rfl
                    clear hb6 hce
                    cases ri
                    · go_wp2_with fail
                      go_meet
                      exact ⟨by simp [p5], HB6.out⟩
                    · go_wp2_with fail
                      refine (HRN.out _ (HBA.out.trans (HB6.out.mono HBA.out.size))).mono ?_
                      rintro e w7 ⟨rfl, hb7⟩
                      have HB7 := Lib.hid (HB6.out.trans (hb7.mono HB6.out.size))
                      clear hb7
                      go_wp2_with fail
                      go_meet
                      exact ⟨by simp [p5], HB7.out⟩
                · go_wp2_with fail
                  refine (HRI.out _ HBA.out).mono ?_
                  rintro e w6 ⟨rfl, hb6⟩
                  have HB6 := Lib.hid hb6
                  have hce := HCA.out.later hb6
                  have ce0 := hce.cell (j := 0) rfl
                  have ce1 := hce.cell (j := 1) rfl
                  have ce2 := hce.cell (j := 2) rfl
                  have ce3 := hce.cell (j := 3) rfl
                  have ce4 := hce.cell (j := 4) rfl
                  have ce5 := hce.cell (j := 5) rfl
                  have ce6 := hce.cell (j := 6) rfl
                  have ce7 := hce.cell (j := 7) rfl
                  have ce8 := hce.cell (j := 8) rfl
                  have ce9 := hce.cell (j := 9) rfl
                  have ce10 := hce.cell (j := 10) rfl
                  have ce11 := hce.cell (j := 11) rfl
                  have ce12 := hce.cell (j := 12) rfl
                  have ce13 := hce.cell (j := 13) rfl
                  have ce14 := hce.cell (j := 14) rfl
                  clear hb6 hce
                  cases ri
                  · go_wp2_with fail
                    go_meet
                    exact ⟨by simp [p5], HB6.out⟩
                  · go_wp2_with fail
                    refine (HRN.out _ (HBA.out.trans (HB6.out.mono HBA.out.size))).mono ?_
                    rintro e w7 ⟨rfl, hb7⟩
                    have HB7 := Lib.hid (HB6.out.trans (hb7.mono HB6.out.size))
                    clear hb7
                    go_wp2_with fail
                    go_meet
                    exact ⟨by simp [p5], HB7.out⟩

              case rest =>
                obtain ⟨rfl, hbd⟩ := hcut
                obtain ⟨b5, hb5⟩ : ∃ b5, p5 e4 bL ri rn = b5 := ⟨_, rfl⟩
                rw [hb5] at HZ3 ⊢
                clear hb5
                obtain ⟨wb, hwb⟩ : ∃ wb, wb = wc := ⟨_, rfl⟩
                rw [← hwb] at hbd ⊢
                have HBB := Lib.hid (HBA.out.trans (hbd.mono HBA.out.size))
                have HNB := Lib.hid (HNA2.out.later hbd)
                have hcf := HCA.out.later hbd
                have cm0 := hcf.cell (j := 0) rfl
                have cm1 := hcf.cell (j := 1) rfl
                have cm2 := hcf.cell (j := 2) rfl
                have cm3 := hcf.cell (j := 3) rfl
                have cm4 := hcf.cell (j := 4) rfl
                have cm5 := hcf.cell (j := 5) rfl
                have cm6 := hcf.cell (j := 6) rfl
                have cm7 := hcf.cell (j := 7) rfl
                have cm8 := hcf.cell (j := 8) rfl
                have cm9 := hcf.cell (j := 9) rfl
                have cm10 := hcf.cell (j := 10) rfl
                have cm11 := hcf.cell (j := 11) rfl
                have cm12 := hcf.cell (j := 12) rfl
                have cm13 := hcf.cell (j := 13) rfl
                have cm14 := hcf.cell (j := 14) rfl
                clear hcf hbd hwb
                cases b5
                · rw [Bool.not_false, Bool.true_and] at HZ3
                  go_upto_region 17 with fail
                  go_cut [130] from 100 to 130 (fun x wx => x = .bool (p6 hc4 c1 c2 x1 x2 g8 x0) ∧ wx = wb)
                  case first =>
                    go_wp2_with fail
                    refine (HHF.out _ HNB.out).mono ?_
                    rintro e w7 ⟨rfl, rfl⟩
                    have y1 := Hc1.out
                    have y2 := Hc2.out
                    have y3 := Hx1.out
                    have y4 := Hx2.out
                    have y5 := Hg8.out
                    have y6 := Hx0.out
                    cases hc4
                    · go_wp2_with fail
                      go_meet
                      exact ⟨by simp [p6], rfl⟩
                    · cases c1
                      · cases c2
                        · cases x1
                          · cases x2
                            · cases g8
                              · go_wp2_with fail
                                go_meet
                                exact ⟨by simp [p6], rfl⟩
                              · go_wp2_with fail
                                go_meet
                                exact ⟨by simp [p6], rfl⟩
                            · go_wp2_with fail
                              go_meet
                              exact ⟨by simp [p6], rfl⟩
                          · go_wp2_with fail
                            go_meet
                            exact ⟨by simp [p6], rfl⟩
                        · go_wp2_with fail
                          go_meet
                          exact ⟨by simp [p6], rfl⟩
                      · go_wp2_with fail
                        go_meet
                        exact ⟨by simp [p6], rfl⟩

                  case rest =>
                    obtain ⟨rfl, hwe⟩ := hcut
                    replace hwe := hwe.symm
                    subst hwe
                    obtain ⟨b6, hb6⟩ : ∃ b6, p6 hc4 c1 c2 x1 x2 g8 x0 = b6 := ⟨_, rfl⟩
                    rw [hb6] at HZ3 ⊢
                    clear hb6

                    cases b6
                    · rw [Bool.not_false, Bool.true_and] at HZ3
                      go_upto_region 19 with fail
                      go_cut [138] from 131 to 138 (fun x wx => x = .bool (p7 v1 v2) ∧ wx = wb)
                      case first =>
                        have y1 := Hv1.out
                        have y2 := Hv2.out
                        cases v1
                        · go_wp2_with fail
                          go_meet
                          exact ⟨by simp [p7], rfl⟩
                        · go_wp2_with fail
                          go_meet
                          exact ⟨by simp [p7], rfl⟩

                      case rest =>
                        obtain ⟨rfl, hwe⟩ := hcut
                        replace hwe := hwe.symm
                        subst hwe
                        obtain ⟨b7, hb7⟩ : ∃ b7, p7 v1 v2 = b7 := ⟨_, rfl⟩
                        rw [hb7] at HZ3 ⊢
                        clear hb7

                        cases b7
                        · rw [Bool.not_false, Bool.true_and] at HZ3
                          clear He6 He11 He4 He5 HbL HbM Hc1 Hc2 Hx1 Hx2 Hg8 Hx0 Hv1 Hv2
                          by_cases ek1 : k = 1
                          · subst ek1
                            rw [if_pos rfl] at HPE
                            by_cases f1 : 1 ≤ a1
                            · by_cases f2 : a1 ≤ 16
                              · by_cases f3 : 1 ≤ a0
                                · by_cases f4 : a0 ≤ a1
                                  · by_cases f5 : 1 ≤ a2
                                    · by_cases f6 : a2 ≤ 16
                                      · have HV : Hid (Z = true) := Lib.hid (by rw [HZ3.out, HPE.out, decide_eq_true (by omega)])
                                        go_wp2_with fail
                                        go_returns
                                        exact ⟨ret_bool HV.out, HBB.out⟩
                                      · have HV : Hid (Z = false) := Lib.hid (by rw [HZ3.out, HPE.out, decide_eq_false (by omega)])
                                        go_wp2_with fail
                                        go_returns
                                        exact ⟨ret_bool HV.out, HBB.out⟩
                                    · have HV : Hid (Z = false) := Lib.hid (by rw [HZ3.out, HPE.out, decide_eq_false (by omega)])
                                      go_wp2_with fail
                                      go_returns
                                      exact ⟨ret_bool HV.out, HBB.out⟩
                                  · have HV : Hid (Z = false) := Lib.hid (by rw [HZ3.out, HPE.out, decide_eq_false (by omega)])
                                    go_wp2_with fail
                                    go_returns
                                    exact ⟨ret_bool HV.out, HBB.out⟩
                                · have HV : Hid (Z = false) := Lib.hid (by rw [HZ3.out, HPE.out, decide_eq_false (by omega)])
                                  go_wp2_with fail
                                  go_returns
                                  exact ⟨ret_bool HV.out, HBB.out⟩
                              · have HV : Hid (Z = false) := Lib.hid (by rw [HZ3.out, HPE.out, decide_eq_false (by omega)])
                                go_wp2_with fail
                                go_returns
                                exact ⟨ret_bool HV.out, HBB.out⟩
                            · have HV : Hid (Z = false) := Lib.hid (by rw [HZ3.out, HPE.out, decide_eq_false (by omega)])
                              go_wp2_with fail
                              go_returns
                              exact ⟨ret_bool HV.out, HBB.out⟩
                          · by_cases ek2 : k = 2
                            · subst ek2
                              rw [if_neg (by decide), if_pos rfl] at HPE
                              by_cases f1 : 1 ≤ a2
                              · by_cases f2 : a2 ≤ 1099511627776
                                · have HV : Hid (Z = true) := Lib.hid (by rw [HZ3.out, HPE.out, decide_eq_true (by omega)])
                                  go_wp2_with fail
                                  go_returns
                                  exact ⟨ret_bool HV.out, HBB.out⟩
                                · have HV : Hid (Z = false) := Lib.hid (by rw [HZ3.out, HPE.out, decide_eq_false (by omega)])
                                  go_wp2_with fail
                                  go_returns
                                  exact ⟨ret_bool HV.out, HBB.out⟩
                              · have HV : Hid (Z = false) := Lib.hid (by rw [HZ3.out, HPE.out, decide_eq_false (by omega)])
                                go_wp2_with fail
                                go_returns
                                exact ⟨ret_bool HV.out, HBB.out⟩
                            · by_cases ek8 : k = 8
                              · subst ek8
                                rw [if_neg (by decide), if_neg (by decide), if_pos rfl] at HPE
                                by_cases f1 : 1 ≤ a0
                                · by_cases f2 : a0 ≤ 16
                                  · have HV : Hid (Z = true) := Lib.hid (by rw [HZ3.out, HPE.out, decide_eq_true (by omega)])
                                    go_wp2_with fail
                                    go_returns
                                    exact ⟨ret_bool HV.out, HBB.out⟩
                                  · have HV : Hid (Z = false) := Lib.hid (by rw [HZ3.out, HPE.out, decide_eq_false (by omega)])
                                    go_wp2_with fail
                                    go_returns
                                    exact ⟨ret_bool HV.out, HBB.out⟩
                                · have HV : Hid (Z = false) := Lib.hid (by rw [HZ3.out, HPE.out, decide_eq_false (by omega)])
                                  go_wp2_with fail
                                  go_returns
                                  exact ⟨ret_bool HV.out, HBB.out⟩
                              · by_cases ek3 : k = 3
                                · subst ek3
                                  rw [if_neg (by decide), if_neg (by decide), if_neg (by decide), if_pos rfl] at HPE
                                  by_cases f1 : 0 ≤ a4
                                  · by_cases f2 : a4 ≤ 2
                                    · by_cases f3 : a4 = 2
                                      · subst f3
                                        by_cases f4 : 1 ≤ a0
                                        · by_cases f5 : a0 ≤ 16
                                          · have HV : Hid (Z = true) := Lib.hid (by rw [HZ3.out, HPE.out, decide_eq_true (by omega)])
                                            go_wp2_with fail
                                            go_returns
                                            exact ⟨ret_bool HV.out, HBB.out⟩
                                          · have HV : Hid (Z = false) := Lib.hid (by rw [HZ3.out, HPE.out, decide_eq_false (by omega)])
                                            go_wp2_with fail
                                            go_returns
                                            exact ⟨ret_bool HV.out, HBB.out⟩
                                        · have HV : Hid (Z = false) := Lib.hid (by rw [HZ3.out, HPE.out, decide_eq_false (by omega)])
                                          go_wp2_with fail
                                          go_returns
                                          exact ⟨ret_bool HV.out, HBB.out⟩
                                      · have f3b : (a4 == 2) = false := by simp [f3]
                                        have f6 : a4 < 2 := by omega
                                        by_cases f7 : a0 = 0
                                        · subst f7
                                          have HV : Hid (Z = true) := Lib.hid (by rw [HZ3.out, HPE.out, decide_eq_true (by omega)])
                                          go_wp2_with fail
                                          go_returns
                                          exact ⟨ret_bool HV.out, HBB.out⟩
                                        · have f7b : (a0 == 0) = false := by simp [f7]
                                          have HV : Hid (Z = false) := Lib.hid (by rw [HZ3.out, HPE.out, decide_eq_false (by omega)])
                                          go_wp2_with fail
                                          go_returns
                                          exact ⟨ret_bool HV.out, HBB.out⟩
                                    · have HV : Hid (Z = false) := Lib.hid (by rw [HZ3.out, HPE.out, decide_eq_false (by omega)])
                                      go_wp2_with fail
                                      go_returns
                                      exact ⟨ret_bool HV.out, HBB.out⟩
                                  · have HV : Hid (Z = false) := Lib.hid (by rw [HZ3.out, HPE.out, decide_eq_false (by omega)])
                                    go_wp2_with fail
                                    go_returns
                                    exact ⟨ret_bool HV.out, HBB.out⟩
                                · rw [if_neg ek1, if_neg ek2, if_neg ek8, if_neg ek3] at HPE
                                  have HV : Hid (Z = true) := Lib.hid (by rw [HZ3.out, HPE.out])
                                  have k1b : (k == 1) = false := by simp [ek1]
                                  have k2b : (k == 2) = false := by simp [ek2]
                                  have k8b : (k == 8) = false := by simp [ek8]
                                  have k3b : (k == 3) = false := by simp [ek3]
                                  go_wp2_with fail
                                  go_returns
                                  exact ⟨ret_bool HV.out, HBB.out⟩

                        · have HZ2 : Hid (Z = false) := Lib.hid (by rw [HZ3.out]; rfl)
                          go_wp2_with fail
                          go_returns
                          exact ⟨ret_bool HZ2.out, HBB.out⟩


                    · have HZ2 : Hid (Z = false) := Lib.hid (by rw [HZ3.out]; rfl)
                      go_wp2_with fail
                      go_returns
                      exact ⟨ret_bool HZ2.out, HBB.out⟩


                · have HZ2 : Hid (Z = false) := Lib.hid (by rw [HZ3.out]; rfl)
                  go_wp2_with fail
                  go_returns
                  exact ⟨ret_bool HZ2.out, HBB.out⟩


            · have HZ2 : Hid (Z = false) := Lib.hid (by rw [HZ3.out]; rfl)
              go_wp2_with fail
              go_returns
              exact ⟨ret_bool HZ2.out, HBA.out⟩


        · have HZ2 : Hid (Z = false) := Lib.hid (by rw [HZ3.out]; rfl)
          go_wp2_with fail
          go_returns
          exact ⟨ret_bool HZ2.out, HBA.out⟩

end Go.Proofs.Ytdmekfeggdodnaa.Rec
