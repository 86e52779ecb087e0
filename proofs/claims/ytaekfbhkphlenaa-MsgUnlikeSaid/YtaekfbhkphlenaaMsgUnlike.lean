/-
  MsgUnlike is proved: two right messages have the same bytes just if they are the same; a message's bytes with more behind them, or cut, are none. Conditions: none.
-/
import Derived.Test.YtaekfbhkphlenaaMsgOpen
import Derived.Test.YtaekfbhkphlenaaMsgSame
import Derived.Test.YtaekfbhkphlenaaMsgCut
namespace Go.Proofs.Ytaekfbhkphlenaa.MsgUnlike
set_option maxRecDepth 100000
open Go.ChangeShapes Go.WideShapes Go.ChangeAt Go.RowKit Go.Proofs.Ytaekfbhkphlenaa.Mem Go.Proofs.Ytaekfbhkphlenaa.Item Go.Proofs.Ytaekfbhkphlenaa.Msg Go.Proofs.Ytaekfbhkphlenaa.Wire

def mUnlike (va vb : Value) (m1 m2 mo : List UInt8) (sv mz : Bool) (E1 : Int) : Nat → Value → World → Prop
  | 0, v, _ => v = .string (bs m1)
  | 1, v, _ => v = .string (bs m2)
  | 2, v, _ => v = .bool sv
  | 3, v, _ => v = va
  | 4, v, _ => v = va
  | 5, v, _ => v = vb
  | 6, v, _ => v = vb
  | 7, v, _ => v = .bool sv
  | 8, v, _ => v = .bool true
  | 9, v, _ => v = .bool true
  | 10, v, _ => v = .int .i64 E1
  | 11, v, _ => v = .bool mz
  | 12, v, _ => v = .string (bs mo)
  | 13, v, _ => v = .bool mz
  | 14, v, _ => v = .bool true
  | 15, v, _ => v = .bool true
  | 16, v, _ => v = .bool true
  | 17, v, _ => v = .int .i64 2
  | 18, v, _ => v = .bool true
  | 19, v, _ => v = .bool true
  | 20, v, _ => v = .bool true
  | _, _, _ => True
theorem mUnlike_later {va vb : Value} {m1 m2 mo : List UInt8} {sv mz : Bool} {E1 : Int} {j : Nat} {v : Value} {w w' : World} (_hb : Below w.heap.size w w') (h : mUnlike va vb m1 m2 mo sv mz E1 j v w) : mUnlike va vb m1 m2 mo sv mz E1 j v w' := by
  match j, h with
  | 0, h | 1, h | 2, h | 3, h | 4, h | 5, h | 6, h | 7, h | 8, h | 9, h | 10, h | 11, h | 12, h | 13, h | 14, h | 15, h | 16, h | 17, h | 18, h | 19, h | 20, h => exact h
  | _ + 21, _ => exact trivial
theorem toList_bs (a b : List UInt8) : ((bs a).toList == (bs b).toList) = decide (a = b) := by
  by_cases h : a = b
  · subst h; simp
  · rw [decide_eq_false h]
    exact str_ne fun e => h (by rw [← bs_list a, e, bs_list])
theorem enc_right {a : Rc} (h : (enc a).2 = 0) : right a = true ∧ enc a = (bytesR a, 0) := by
  unfold enc at h ⊢
  by_cases ra : right a = true
  · rw [if_pos ra]; exact ⟨ra, rfl⟩
  · rw [if_neg ra] at h; cases h
theorem unlike (a b : Rc) (oa : a.ok) (ob : b.ok) (h1 : (enc a).2 = 0) (h2 : (enc b).2 = 0) : (enc a).1 = (enc b).1 ↔ a = b := by
  obtain ⟨ra, ea⟩ := enc_right h1
  obtain ⟨rb, eb⟩ := enc_right h2
  rw [ea, eb]
  exact ⟨fun h => bytes_inj ra rb oa ob h, fun h => by rw [h]⟩
theorem more_none (a : Rc) (oa : a.ok) (h1 : (enc a).2 = 0) (m : List UInt8) : decE (bs ((enc a).1 ++ m)) = if m = [] then 0 else 2 := by
  obtain ⟨ra, ea⟩ := enc_right h1
  rw [ea]
  unfold decE
  simp only
  rw [dec_more a ra oa m]
  by_cases h : m = []
  · rw [if_pos h, if_pos h]; rfl
  · rw [if_neg h, if_neg h]; rfl
theorem cut_none (a : Rc) (oa : a.ok) (h1 : (enc a).2 = 0) : decE (bs (enc a).1.dropLast) = 2 := by
  obtain ⟨ra, ea⟩ := enc_right h1
  rw [ea]
  unfold decE
  simp only
  rw [dec_cut a ra oa]
  rfl
theorem enc_some (a : Rc) (h1 : (enc a).2 = 0) : 0 < (enc a).1.length := by
  obtain ⟨_, ea⟩ := enc_right h1
  rw [ea]
  unfold bytesR
  simp
theorem enc_len (a : Rc) (h1 : a.items.length ≤ 100) (h2 : a.nodes.length ≤ 100) : (enc a).1.length ≤ 100000 := by
  unfold enc
  split
  · have h3 := body_length a (fl a.kind) h1 h2
    have h4 := fl_len a.kind
    unfold bytesR
    rw [List.length_cons]
    omega
  · simp
theorem cut_bs (m : List UInt8) : (bs m).extract 0 (m.length - 1) = bs m.dropLast := by
  apply ba_ext
  rw [ext_list, bs_list, bs_list, List.drop_zero, List.dropLast_eq_take]
set_option maxHeartbeats 4000000 in
theorem walk (a b : Rc) (ya yb : Lay) (mo : List UInt8) (w : World) (ha : Has w a ya) (hb : Has w b yb) (oa : a.ok) (ob : b.ok) (la : a.items.length ≤ maxLen ∧ a.nodes.length ≤ maxLen) (lb : b.items.length ≤ maxLen ∧ b.nodes.length ≤ maxLen) (lm : mo.length ≤ 140737488355328) :
    Calls Try.prog 5 #[a.val ya, b.val yb, .string (bs mo)] w fun e w' => e = .returned (.bool true) ∧ Below w.heap.size w w' := by
  unfold maxLen at la lb
  have HEA := Lib.hid (fun w' (h : Below w.heap.size w w') (h1 : a.items.length ≤ 100) (h2 : a.nodes.length ≤ 100) => encode_any a ya w' (ha.later h) h1 h2)
  have HEB := Lib.hid (fun w' (h : Below w.heap.size w w') (h1 : b.items.length ≤ 100) (h2 : b.nodes.length ≤ 100) => encode_any b yb w' (hb.later h) h1 h2)
  have HPA := Lib.hid (fun w' => plain_any a ya w')
  have HPB := Lib.hid (fun w' => plain_any b yb w')
  have HGA := Lib.hid (fun w' => great_any a ya w')
  have HGB := Lib.hid (fun w' => great_any b yb w')
  have HSM0 := Lib.hid (fun w' (h : Below w.heap.size w w') (h1 : a.items.length ≤ 100) (h2 : a.nodes.length ≤ 100) => same_any a b ya yb w' (ha.later h) (hb.later h) (by omega) (by omega))
  have HUN := Lib.hid (unlike a b oa ob)
  have HMO := Lib.hid (fun h => more_none a oa h mo)
  have HCU := Lib.hid (cut_none a oa)
  have HSO := Lib.hid (enc_some a)
  have HEL := Lib.hid (enc_len a)
  have HLM := Lib.hid lm
  clear ha hb oa ob lm
  obtain ⟨Q, hQ⟩ : ∃ Q : Prop, (a = b) = Q := ⟨_, rfl⟩
  obtain ⟨⟨m1, n1⟩, hE1⟩ : ∃ E, enc a = E := ⟨_, rfl⟩
  obtain ⟨⟨m2, n2⟩, hE2⟩ : ∃ E, enc b = E := ⟨_, rfl⟩
  simp only [hQ] at HSM0 HUN
  rw [hE1] at HEA HUN HMO HCU HSO HEL
  rw [hE2] at HEB HUN
  simp only at HUN HMO HCU HSO HEL
  clear hE1 hE2 hQ
  obtain ⟨kp, ⟨t1p, t2p, t3p⟩, itsp, ndsp, a0p, a1p, a2p, a3p, a4p, a5p, yesp⟩ := a
  obtain ⟨Ap, cp, Bp, dp⟩ := ya
  obtain ⟨kq, ⟨t1q, t2q, t3q⟩, itsq, ndsq, a0q, a1q, a2q, a3q, a4q, a5q, yesq⟩ := b
  obtain ⟨Aq, cq, Bq, dq⟩ := yb
  simp only at la lb HEA HEB HSM0 HEL HGA HGB
  generalize hLp : itsp.length = Lp at HEA HPA HSM0 HGA HEL la ⊢
  generalize hMp : ndsp.length = Mp at HEA HPA HSM0 HGA HEL la ⊢
  generalize hLq : itsq.length = Lq at HEB HPB HSM0 HGB lb ⊢
  generalize hMq : ndsq.length = Mq at HEB HPB HSM0 HGB lb ⊢
  unfold Rc.val at HEA HEB HPA HPB HGA HGB HSM0 ⊢
  simp only [hLp, hMp, hLq, hMq] at HEA HEB HPA HPB HGA HGB HSM0 ⊢
  clear hLp hMp hLq hMq
  obtain ⟨w2, hw2⟩ : ∃ w2, w2 = (w.alloc (.cells #[.int .i64 kp, .int .i64 t1p, .int .i64 t2p, .int .i64 t3p, .slice Ap Lp cp, .slice Bp Mp dp, .int .i64 a0p, .int .i64 a1p, .int .i64 a2p, .int .i64 a3p, .int .i64 a4p, .int .i64 a5p, .bool yesp] 27)).alloc (.cells #[.int .i64 kq, .int .i64 t1q, .int .i64 t2q, .int .i64 t3q, .slice Aq Lq cq, .slice Bq Mq dq, .int .i64 a0q, .int .i64 a1q, .int .i64 a2q, .int .i64 a3q, .int .i64 a4q, .int .i64 a5q, .bool yesq] 27) := ⟨_, rfl⟩
  have HB2 : Hid (Below w.heap.size w w2) := Lib.hid (by rw [hw2]; exact Go.Joins.below_alloc2 _ _ _)
  have HCA : Hid (Cells w2 w.heap.size 27 _) := Lib.hid (by rw [hw2]; exact (cells_new w 27 _ #[.int .i64 kp, .int .i64 t1p, .int .i64 t2p, .int .i64 t3p, .slice Ap Lp cp, .slice Bp Mp dp, .int .i64 a0p, .int .i64 a1p, .int .i64 a2p, .int .i64 a3p, .int .i64 a4p, .int .i64 a5p, .bool yesp] rfl).later (below_alloc _ _))
  have HCB : Hid (Cells w2 (w.heap.size + 1) 27 _) := Lib.hid (by
    rw [hw2]
    have h7 := cells_new (w.alloc (.cells #[.int .i64 kp, .int .i64 t1p, .int .i64 t2p, .int .i64 t3p, .slice Ap Lp cp, .slice Bp Mp dp, .int .i64 a0p, .int .i64 a1p, .int .i64 a2p, .int .i64 a3p, .int .i64 a4p, .int .i64 a5p, .bool yesp] 27)) 27 _ #[.int .i64 kq, .int .i64 t1q, .int .i64 t2q, .int .i64 t3q, .slice Aq Lq cq, .slice Bq Mq dq, .int .i64 a0q, .int .i64 a1q, .int .i64 a2q, .int .i64 a3q, .int .i64 a4q, .int .i64 a5q, .bool yesq] rfl
    rw [show (w.alloc (.cells #[.int .i64 kp, .int .i64 t1p, .int .i64 t2p, .int .i64 t3p, .slice Ap Lp cp, .slice Bp Mp dp, .int .i64 a0p, .int .i64 a1p, .int .i64 a2p, .int .i64 a3p, .int .i64 a4p, .int .i64 a5p, .bool yesp] 27)).heap.size = w.heap.size + 1 by simp] at h7
    exact h7)
  go_enter Try.func5, Try.ntmps5
  go_wp2_with fail
  rw [← hw2]
  clear hw2
  refine (rawake_any _).mono ?_
  rintro e w3 ⟨rfl, hb3⟩
  have HB3 := Lib.hid (HB2.out.trans (hb3.mono HB2.out.size))
  have HCA3 := Lib.hid (HCA.out.later hb3)
  have HCB3 := Lib.hid (HCB.out.later hb3)
  have hca := HCA3.out
  have p0 := hca.cell (j := 0) rfl
  have p1 := hca.cell (j := 1) rfl
  have p2 := hca.cell (j := 2) rfl
  have p3 := hca.cell (j := 3) rfl
  have p4 := hca.cell (j := 4) rfl
  have p5 := hca.cell (j := 5) rfl
  have p6 := hca.cell (j := 6) rfl
  have p7 := hca.cell (j := 7) rfl
  have p8 := hca.cell (j := 8) rfl
  have p9 := hca.cell (j := 9) rfl
  have p10 := hca.cell (j := 10) rfl
  have p11 := hca.cell (j := 11) rfl
  have p12 := hca.cell (j := 12) rfl
  clear hb3 hca
  go_wp2_with fail
  refine (HGA.out _).mono ?_
  rintro e w4 ⟨rfl, hb4⟩
  have HB4 := Lib.hid (HB3.out.trans (hb4.mono HB3.out.size))
  have HCA4 := Lib.hid (HCA3.out.later hb4)
  have HCB4 := Lib.hid (HCB3.out.later hb4)
  clear hb4 p0 p1 p2 p3 p4 p5 p6 p7 p8 p9 p10 p11 p12
  obtain ⟨ga, hga⟩ : ∃ ga, (decide (60 < Lp) || decide (60 < Mp)) = ga := ⟨_, rfl⟩
  rw [hga]
  have HGA2 := Lib.hid hga
  clear hga
  cases ga
  case true =>
    go_wp2_with fail
    go_returns
    exact ⟨rfl, HB4.out⟩
  have HLA : Hid (Lp ≤ 100 ∧ Mp ≤ 100) := Lib.hid (by have h := HGA2.out; simp at h; omega)
  have hcb := HCB4.out
  have q0 := hcb.cell (j := 0) rfl
  have q1 := hcb.cell (j := 1) rfl
  have q2 := hcb.cell (j := 2) rfl
  have q3 := hcb.cell (j := 3) rfl
  have q4 := hcb.cell (j := 4) rfl
  have q5 := hcb.cell (j := 5) rfl
  have q6 := hcb.cell (j := 6) rfl
  have q7 := hcb.cell (j := 7) rfl
  have q8 := hcb.cell (j := 8) rfl
  have q9 := hcb.cell (j := 9) rfl
  have q10 := hcb.cell (j := 10) rfl
  have q11 := hcb.cell (j := 11) rfl
  have q12 := hcb.cell (j := 12) rfl
  clear hcb
  go_wp2_with fail
  refine (HGB.out _).mono ?_
  rintro e w5 ⟨rfl, hb5⟩
  have HB5 := Lib.hid (HB4.out.trans (hb5.mono HB4.out.size))
  have HCA5 := Lib.hid (HCA4.out.later hb5)
  have HCB5 := Lib.hid (HCB4.out.later hb5)
  clear hb5 q0 q1 q2 q3 q4 q5 q6 q7 q8 q9 q10 q11 q12
  obtain ⟨gb, hgb⟩ : ∃ gb, (decide (60 < Lq) || decide (60 < Mq)) = gb := ⟨_, rfl⟩
  rw [hgb]
  have HGB2 := Lib.hid hgb
  clear hgb
  cases gb
  case true =>
    go_wp2_with fail
    go_returns
    exact ⟨rfl, HB5.out⟩
  have HLB : Hid (Lq ≤ 100 ∧ Mq ≤ 100) := Lib.hid (by have h := HGB2.out; simp at h; omega)
  have hms : (bs mo).size = mo.length := bs_size mo
  have hlm := HLM.out
  by_cases gm : 1000 < mo.length
  · go_wp2_with fail
    go_returns
    exact ⟨rfl, HB5.out⟩
  have HGM := Lib.hid gm
  have hca := HCA5.out
  have p0 := hca.cell (j := 0) rfl
  have p1 := hca.cell (j := 1) rfl
  have p2 := hca.cell (j := 2) rfl
  have p3 := hca.cell (j := 3) rfl
  have p4 := hca.cell (j := 4) rfl
  have p5 := hca.cell (j := 5) rfl
  have p6 := hca.cell (j := 6) rfl
  have p7 := hca.cell (j := 7) rfl
  have p8 := hca.cell (j := 8) rfl
  have p9 := hca.cell (j := 9) rfl
  have p10 := hca.cell (j := 10) rfl
  have p11 := hca.cell (j := 11) rfl
  have p12 := hca.cell (j := 12) rfl
  clear hca
  go_wp2_with fail
  refine (HEA.out _ HB5.out HLA.out.1 HLA.out.2).mono ?_
  rintro e w6 ⟨rfl, hb6⟩
  have HB6 := Lib.hid (HB5.out.trans (hb6.mono HB5.out.size))
  have HCA6 := Lib.hid (HCA5.out.later hb6)
  have HCB6 := Lib.hid (HCB5.out.later hb6)
  clear hb6 gm hms hlm p0 p1 p2 p3 p4 p5 p6 p7 p8 p9 p10 p11 p12
  have hcb := HCB6.out
  have q0 := hcb.cell (j := 0) rfl
  have q1 := hcb.cell (j := 1) rfl
  have q2 := hcb.cell (j := 2) rfl
  have q3 := hcb.cell (j := 3) rfl
  have q4 := hcb.cell (j := 4) rfl
  have q5 := hcb.cell (j := 5) rfl
  have q6 := hcb.cell (j := 6) rfl
  have q7 := hcb.cell (j := 7) rfl
  have q8 := hcb.cell (j := 8) rfl
  have q9 := hcb.cell (j := 9) rfl
  have q10 := hcb.cell (j := 10) rfl
  have q11 := hcb.cell (j := 11) rfl
  have q12 := hcb.cell (j := 12) rfl
  clear hcb
  go_wp2_with fail
  refine (HEB.out _ HB6.out HLB.out.1 HLB.out.2).mono ?_
  rintro e w7 ⟨rfl, hb7⟩
  have HB7 := Lib.hid (HB6.out.trans (hb7.mono HB6.out.size))
  have HCA7 := Lib.hid (HCA6.out.later hb7)
  have HCB7 := Lib.hid (HCB6.out.later hb7)
  clear hb7 q0 q1 q2 q3 q4 q5 q6 q7 q8 q9 q10 q11 q12
  by_cases h1 : n1 = 0
  case neg =>
    have h1' : (n1 != 0) = true := by simp [h1]
    go_wp2_with fail
    go_returns
    exact ⟨rfl, HB7.out⟩
  by_cases h2 : n2 = 0
  case neg =>
    have h1' : (n1 != 0) = false := by simp [h1]
    have h2' : (n2 != 0) = true := by simp [h2]
    go_wp2_with fail
    go_returns
    exact ⟨rfl, HB7.out⟩
  have HUV := Lib.hid (HUN.out h1 h2)
  have HMV := Lib.hid (HMO.out h1)
  have HCV := Lib.hid (HCU.out h1)
  have hso := HSO.out h1
  have hel := HEL.out HLA.out.1 HLA.out.2
  subst h1 h2
  obtain ⟨sv, hv⟩ : ∃ sv, decide (m1 = m2) = sv := ⟨_, rfl⟩
  have HSV : Hid (((bs m1).toList == (bs m2).toList) = sv) := Lib.hid (by rw [toList_bs, hv])
  have HVQ : Hid (∀ v', (v' = true ↔ Q) → v' = sv) := Lib.hid (fun v' hv' => by
    rw [← HUV.out, ← decide_eq_true_iff (p := m1 = m2), hv] at hv'
    cases sv <;> cases v' <;> simp_all)
  have hap : bs m1 ++ bs mo = bs (m1 ++ mo) := bs_app m1 mo
  have hl : (bs m1).size + (bs mo).size ≤ 9223372036854775807 := by have := HGM.out; rw [bs_size, bs_size]; omega
  have HD1 := Lib.hid (fun w' => decode_any (bs (m1 ++ mo)) w' (by have := HGM.out; rw [bs_size, List.length_append]; omega))
  have HD2 := Lib.hid (fun w' => decode_any (bs m1.dropLast) w' (by rw [bs_size, List.length_dropLast]; omega))
  rw [HMV.out] at HD1
  rw [HCV.out] at HD2
  obtain ⟨mz, hmz⟩ : ∃ mz, decide (mo = []) = mz := ⟨_, rfl⟩
  have HMZ : Hid ((bs mo).toList.isEmpty = mz) := Lib.hid (by
    rw [← hmz, ← toList_bs mo [], show (bs []).toList = [] by simp [bs]]
    cases (bs mo).toList <;> rfl)
  obtain ⟨E1, hE1⟩ : ∃ E1 : Int, (if mo = [] then 0 else 2) = E1 := ⟨_, rfl⟩
  rw [hE1] at HD1
  have HE1 : Hid ((E1 == 0) = mz) := Lib.hid (by
    rw [← hE1, ← hmz]
    by_cases h : mo = []
    · simp [h]
    · simp [h])
  obtain ⟨R1, hR1⟩ : ∃ R1, decR (bs (m1 ++ mo)) = R1 := ⟨_, rfl⟩
  obtain ⟨R2, hR2⟩ : ∃ R2, decR (bs m1.dropLast) = R2 := ⟨_, rfl⟩
  rw [hR1] at HD1
  rw [hR2] at HD2
  have hbs : (bs m1).size = m1.length := bs_size m1
  clear hv hmz hE1 hR1 hR2
  go_wp2_with fail
  refine (HD1.out _).mono ?_
  rintro e w8 ⟨⟨y1, rfl, _⟩, hb8⟩
  have HB8 := Lib.hid (HB7.out.trans (hb8.mono HB7.out.size))
  have HCA8 := Lib.hid (HCA7.out.later hb8)
  have HCB8 := Lib.hid (HCB7.out.later hb8)
  clear hb8 hap hl
  obtain ⟨k1, ⟨t11, t12, t13⟩, its1, nds1, r0, r1, r2, r3, r4, r5, yes1⟩ := R1
  obtain ⟨A1, c1, B1, d1⟩ := y1
  obtain ⟨L1, hL1⟩ : ∃ L1, its1.length = L1 := ⟨_, rfl⟩
  obtain ⟨M1, hM1⟩ : ∃ M1, nds1.length = M1 := ⟨_, rfl⟩
  unfold Rc.val
  simp only [hL1, hM1]
  clear hL1 hM1
  have hb9 := below_alloc w8 (.cells #[.int .i64 k1, .int .i64 t11, .int .i64 t12, .int .i64 t13, .slice A1 L1 c1, .slice B1 M1 d1, .int .i64 r0, .int .i64 r1, .int .i64 r2, .int .i64 r3, .int .i64 r4, .int .i64 r5, .bool yes1] 27)
  have HB9 := Lib.hid (HB8.out.trans (hb9.mono HB8.out.size))
  have HCA9 := Lib.hid (HCA8.out.later hb9)
  have HCB9 := Lib.hid (HCB8.out.later hb9)
  clear hb9
  go_wp2_with fail
  rw [cut_bs]
  refine (HD2.out _).mono ?_
  rintro e w10 ⟨⟨y2, rfl, _⟩, hb10⟩
  have HB10 := Lib.hid (HB9.out.trans (hb10.mono HB9.out.size))
  have HCA10 := Lib.hid (HCA9.out.later hb10)
  have HCB10 := Lib.hid (HCB9.out.later hb10)
  clear hb10 hbs hso hel
  obtain ⟨k2, ⟨t21, t22, t23⟩, its2, nds2, u0, u1, u2, u3, u4, u5, yes2⟩ := R2
  obtain ⟨A2, c2, B2, d2⟩ := y2
  obtain ⟨L2, hL2⟩ : ∃ L2, its2.length = L2 := ⟨_, rfl⟩
  obtain ⟨M2, hM2⟩ : ∃ M2, nds2.length = M2 := ⟨_, rfl⟩
  unfold Rc.val
  simp only [hL2, hM2]
  clear hL2 hM2
  obtain ⟨wr, hwr⟩ : ∃ wr, wr = w10.alloc (.cells #[.int .i64 k2, .int .i64 t21, .int .i64 t22, .int .i64 t23, .slice A2 L2 c2, .slice B2 M2 d2, .int .i64 u0, .int .i64 u1, .int .i64 u2, .int .i64 u3, .int .i64 u4, .int .i64 u5, .bool yes2] 27) := ⟨_, rfl⟩
  have hb11 := below_alloc w10 (.cells #[.int .i64 k2, .int .i64 t21, .int .i64 t22, .int .i64 t23, .slice A2 L2 c2, .slice B2 M2 d2, .int .i64 u0, .int .i64 u1, .int .i64 u2, .int .i64 u3, .int .i64 u4, .int .i64 u5, .bool yes2] 27)
  rw [← hwr] at hb11
  have HBR := Lib.hid (HB10.out.trans (hb11.mono HB10.out.size))
  have HQA : Hid (∀ wi, Below wr.heap.size wr wi → Cells wi w.heap.size 27 _) := Lib.hid (fun wi hi => (HCA10.out.later hb11).later hi)
  have HQB : Hid (∀ wi, Below wr.heap.size wr wi → Cells wi (w.heap.size + 1) 27 _) := Lib.hid (fun wi hi => (HCB10.out.later hb11).later hi)
  have HSM := Lib.hid (fun w' (h : Below wr.heap.size wr w') => HSM0.out w' (HBR.out.trans (h.mono HBR.out.size)) HLA.out.1 HLA.out.2)
  clear hb11
  go_wp2_with fail
  rw [← hwr]
  clear hwr
  refine Reg.region_heavy (by kernel_rfl) 20 [20] (mUnlike (.agg #[.int .i64 kp, .int .i64 t1p, .int .i64 t2p, .int .i64 t3p, .slice Ap Lp cp, .slice Bp Mp dp, .int .i64 a0p, .int .i64 a1p, .int .i64 a2p, .int .i64 a3p, .int .i64 a4p, .int .i64 a5p, .bool yesp]) (.agg #[.int .i64 kq, .int .i64 t1q, .int .i64 t2q, .int .i64 t3q, .slice Aq Lq cq, .slice Bq Mq dq, .int .i64 a0q, .int .i64 a1q, .int .i64 a2q, .int .i64 a3q, .int .i64 a4q, .int .i64 a5q, .bool yesq]) m1 m2 mo sv mz E1) (fun a => Below wr.heap.size wr a) (fun a => Below wr.heap.size wr a) (fun V => [(some 60, V 0), (some 61, V 1), (some 62, V 2), (some 63, V 3), (some 64, V 4), (some 65, V 5), (some 66, V 6), (some 67, V 7), (some 68, V 8), (some 69, V 9), (some 70, V 10), (some 71, V 11), (some 72, V 12), (some 73, V 13), (some 74, V 14), (some 75, V 15), (some 76, V 16), (some 77, V 17), (some 78, V 18), (some 79, V 19), (some 6, V 20)]) (by kernel_rfl) (by kernel_rfl) (by kernel_rfl) (fun V => rfl) ?_ ?_ ?_
  · exact (Below.refl _ _).drew
  · intro i o ho
    have hi : i < 21 := (Array.getElem?_eq_some_iff.1 ho).1
    rcases i with _ | _ | _ | _ | _ | _ | _ | _ | _ | _ | _ | _ | _ | _ | _ | _ | _ | _ | _ | _ | _ | i
    · obtain rfl := Option.some.inj ho
      intro ρ wi hE hI hs hd
      try dsimp only at hI
      have e7 : ρ (.tmp 7) = .string (bs m1) := hs 7 (by kernel_rfl)
      exact Reg.Gives.value (v := .string (bs m1)) (w' := wi) (by go_simp) (Reg.OwedH.same hI rfl)
    · obtain rfl := Option.some.inj ho
      intro ρ wi hE hI hs hd
      try dsimp only at hI
      have e9 : ρ (.tmp 9) = .string (bs m2) := hs 9 (by kernel_rfl)
      exact Reg.Gives.value (v := .string (bs m2)) (w' := wi) (by go_simp) (Reg.OwedH.same hI rfl)
    · obtain rfl := Option.some.inj ho
      intro ρ wi hE hI hs hd
      try dsimp only at hI
      obtain ⟨u60, g60, e60⟩ := hd 0 60 (by kernel_rfl) (by kernel_rfl) (by show _ < 80; decide)
      obtain rfl : u60 = .string (bs m1) := g60
      obtain ⟨u61, g61, e61⟩ := hd 1 61 (by kernel_rfl) (by kernel_rfl) (by show _ < 80; decide)
      obtain rfl : u61 = .string (bs m2) := g61
      have hx := HSV.out
      exact Reg.Gives.value (v := .bool sv) (w' := wi) (by go_simp) (Reg.OwedH.same hI rfl)
    · obtain rfl := Option.some.inj ho
      intro ρ wi hE hI hs hd
      try dsimp only at hI
      have e3 : ρ (.tmp 3) = .pointer (some ⟨w.heap.size, 0, none⟩) := hs 3 (by kernel_rfl)
      have hcq := HQA.out wi hI
      have q0 := hcq.cell (j := 0) rfl
      have q1 := hcq.cell (j := 1) rfl
      have q2 := hcq.cell (j := 2) rfl
      have q3 := hcq.cell (j := 3) rfl
      have q4 := hcq.cell (j := 4) rfl
      have q5 := hcq.cell (j := 5) rfl
      have q6 := hcq.cell (j := 6) rfl
      have q7 := hcq.cell (j := 7) rfl
      have q8 := hcq.cell (j := 8) rfl
      have q9 := hcq.cell (j := 9) rfl
      have q10 := hcq.cell (j := 10) rfl
      have q11 := hcq.cell (j := 11) rfl
      have q12 := hcq.cell (j := 12) rfl
      exact Reg.Gives.value (v := (.agg #[.int .i64 kp, .int .i64 t1p, .int .i64 t2p, .int .i64 t3p, .slice Ap Lp cp, .slice Bp Mp dp, .int .i64 a0p, .int .i64 a1p, .int .i64 a2p, .int .i64 a3p, .int .i64 a4p, .int .i64 a5p, .bool yesp])) (w' := wi) (by go_simp) (Reg.OwedH.same hI rfl)
    · obtain rfl := Option.some.inj ho
      intro ρ wi hE hI hs hd
      try dsimp only at hI
      obtain ⟨u63, g63, e63⟩ := hd 3 63 (by kernel_rfl) (by kernel_rfl) (by show _ < 80; decide)
      obtain rfl : u63 = (.agg #[.int .i64 kp, .int .i64 t1p, .int .i64 t2p, .int .i64 t3p, .slice Ap Lp cp, .slice Bp Mp dp, .int .i64 a0p, .int .i64 a1p, .int .i64 a2p, .int .i64 a3p, .int .i64 a4p, .int .i64 a5p, .bool yesp]) := g63
      have hf := hE.func
      refine Reg.Gives.call (f := 9) (args := #[.agg #[.int .i64 kp, .int .i64 t1p, .int .i64 t2p, .int .i64 t3p, .slice Ap Lp cp, .slice Bp Mp dp, .int .i64 a0p, .int .i64 a1p, .int .i64 a2p, .int .i64 a3p, .int .i64 a4p, .int .i64 a5p, .bool yesp]]) (w' := wi) (by go_simp) ?_
      refine (HPA.out wi).mono ?_
      rintro e w'' ⟨rfl, hbb⟩
      exact ⟨_, rfl, ⟨rfl, hI.trans (hbb.mono hI.size), fun j u _ _ h => mUnlike_later hbb h⟩⟩
    · obtain rfl := Option.some.inj ho
      intro ρ wi hE hI hs hd
      try dsimp only at hI
      have e4 : ρ (.tmp 4) = .pointer (some ⟨w.heap.size + 1, 0, none⟩) := hs 4 (by kernel_rfl)
      have hcq := HQB.out wi hI
      have q0 := hcq.cell (j := 0) rfl
      have q1 := hcq.cell (j := 1) rfl
      have q2 := hcq.cell (j := 2) rfl
      have q3 := hcq.cell (j := 3) rfl
      have q4 := hcq.cell (j := 4) rfl
      have q5 := hcq.cell (j := 5) rfl
      have q6 := hcq.cell (j := 6) rfl
      have q7 := hcq.cell (j := 7) rfl
      have q8 := hcq.cell (j := 8) rfl
      have q9 := hcq.cell (j := 9) rfl
      have q10 := hcq.cell (j := 10) rfl
      have q11 := hcq.cell (j := 11) rfl
      have q12 := hcq.cell (j := 12) rfl
      exact Reg.Gives.value (v := (.agg #[.int .i64 kq, .int .i64 t1q, .int .i64 t2q, .int .i64 t3q, .slice Aq Lq cq, .slice Bq Mq dq, .int .i64 a0q, .int .i64 a1q, .int .i64 a2q, .int .i64 a3q, .int .i64 a4q, .int .i64 a5q, .bool yesq])) (w' := wi) (by go_simp) (Reg.OwedH.same hI rfl)
    · obtain rfl := Option.some.inj ho
      intro ρ wi hE hI hs hd
      try dsimp only at hI
      obtain ⟨u65, g65, e65⟩ := hd 5 65 (by kernel_rfl) (by kernel_rfl) (by show _ < 80; decide)
      obtain rfl : u65 = (.agg #[.int .i64 kq, .int .i64 t1q, .int .i64 t2q, .int .i64 t3q, .slice Aq Lq cq, .slice Bq Mq dq, .int .i64 a0q, .int .i64 a1q, .int .i64 a2q, .int .i64 a3q, .int .i64 a4q, .int .i64 a5q, .bool yesq]) := g65
      have hf := hE.func
      refine Reg.Gives.call (f := 9) (args := #[.agg #[.int .i64 kq, .int .i64 t1q, .int .i64 t2q, .int .i64 t3q, .slice Aq Lq cq, .slice Bq Mq dq, .int .i64 a0q, .int .i64 a1q, .int .i64 a2q, .int .i64 a3q, .int .i64 a4q, .int .i64 a5q, .bool yesq]]) (w' := wi) (by go_simp) ?_
      refine (HPB.out wi).mono ?_
      rintro e w'' ⟨rfl, hbb⟩
      exact ⟨_, rfl, ⟨rfl, hI.trans (hbb.mono hI.size), fun j u _ _ h => mUnlike_later hbb h⟩⟩
    · obtain rfl := Option.some.inj ho
      intro ρ wi hE hI hs hd
      try dsimp only at hI
      obtain ⟨u64, g64, e64⟩ := hd 4 64 (by kernel_rfl) (by kernel_rfl) (by show _ < 80; decide)
      obtain rfl : u64 = (.agg #[.int .i64 kp, .int .i64 t1p, .int .i64 t2p, .int .i64 t3p, .slice Ap Lp cp, .slice Bp Mp dp, .int .i64 a0p, .int .i64 a1p, .int .i64 a2p, .int .i64 a3p, .int .i64 a4p, .int .i64 a5p, .bool yesp]) := g64
      obtain ⟨u66, g66, e66⟩ := hd 6 66 (by kernel_rfl) (by kernel_rfl) (by show _ < 80; decide)
      obtain rfl : u66 = (.agg #[.int .i64 kq, .int .i64 t1q, .int .i64 t2q, .int .i64 t3q, .slice Aq Lq cq, .slice Bq Mq dq, .int .i64 a0q, .int .i64 a1q, .int .i64 a2q, .int .i64 a3q, .int .i64 a4q, .int .i64 a5q, .bool yesq]) := g66
      have hf := hE.func
      refine Reg.Gives.call (f := 14) (args := #[.agg #[.int .i64 kp, .int .i64 t1p, .int .i64 t2p, .int .i64 t3p, .slice Ap Lp cp, .slice Bp Mp dp, .int .i64 a0p, .int .i64 a1p, .int .i64 a2p, .int .i64 a3p, .int .i64 a4p, .int .i64 a5p, .bool yesp], .agg #[.int .i64 kq, .int .i64 t1q, .int .i64 t2q, .int .i64 t3q, .slice Aq Lq cq, .slice Bq Mq dq, .int .i64 a0q, .int .i64 a1q, .int .i64 a2q, .int .i64 a3q, .int .i64 a4q, .int .i64 a5q, .bool yesq]]) (w' := wi) (by go_simp) ?_
      refine (HSM.out wi hI).mono ?_
      rintro e w'' ⟨⟨v', rfl, hv'⟩, hbb⟩
      obtain rfl : v' = sv := HVQ.out v' hv'
      exact ⟨_, rfl, ⟨rfl, hI.trans (hbb.mono hI.size), fun j u _ _ h => mUnlike_later hbb h⟩⟩
    · obtain rfl := Option.some.inj ho
      intro ρ wi hE hI hs hd
      try dsimp only at hI
      obtain ⟨u62, g62, e62⟩ := hd 2 62 (by kernel_rfl) (by kernel_rfl) (by show _ < 80; decide)
      obtain rfl : u62 = .bool sv := g62
      obtain ⟨u67, g67, e67⟩ := hd 7 67 (by kernel_rfl) (by kernel_rfl) (by show _ < 80; decide)
      obtain rfl : u67 = .bool sv := g67
      exact Reg.Gives.value (v := .bool true) (w' := wi) (by go_simp) (Reg.OwedH.same hI rfl)
    · obtain rfl := Option.some.inj ho
      intro ρ wi hE hI hs hd
      try dsimp only at hI
      obtain ⟨u68, g68, e68⟩ := hd 8 68 (by kernel_rfl) (by kernel_rfl) (by show _ < 80; decide)
      obtain rfl : u68 = .bool true := g68
      exact Reg.Gives.value (v := .bool true) (w' := wi) (by go_simp) (Reg.OwedH.same hI rfl)
    · obtain rfl := Option.some.inj ho
      intro ρ wi hE hI hs hd
      try dsimp only at hI
      have e12 : ρ (.tmp 12) = .int .i64 E1 := hs 12 (by kernel_rfl)
      intro ug hgg
      obtain rfl : ug = .bool true := hgg
      refine ⟨fun _ => ?_, fun h => absurd rfl h⟩
      exact Reg.Gives.value (v := .int .i64 E1) (w' := wi) (by go_simp) (Reg.OwedH.same hI rfl)
    · obtain rfl := Option.some.inj ho
      intro ρ wi hE hI hs hd
      try dsimp only at hI
      obtain ⟨u70, g70, e70⟩ := hd 10 70 (by kernel_rfl) (by kernel_rfl) (by show _ < 80; decide)
      obtain rfl : u70 = .int .i64 E1 := g70
      have hc := hE.const
      intro ug hgg
      obtain rfl : ug = .bool true := hgg
      refine ⟨fun _ => ?_, fun h => absurd rfl h⟩
      have hx := HE1.out
      exact Reg.Gives.value (v := .bool mz) (w' := wi) (by go_simp) (Reg.OwedH.same hI rfl)
    · obtain rfl := Option.some.inj ho
      intro ρ wi hE hI hs hd
      try dsimp only at hI
      have e2 : ρ (.tmp 2) = .string (bs mo) := hs 2 (by kernel_rfl)
      intro ug hgg
      obtain rfl : ug = .bool true := hgg
      refine ⟨fun _ => ?_, fun h => absurd rfl h⟩
      exact Reg.Gives.value (v := .string (bs mo)) (w' := wi) (by go_simp) (Reg.OwedH.same hI rfl)
    · obtain rfl := Option.some.inj ho
      intro ρ wi hE hI hs hd
      try dsimp only at hI
      obtain ⟨u72, g72, e72⟩ := hd 12 72 (by kernel_rfl) (by kernel_rfl) (by show _ < 80; decide)
      obtain rfl : u72 = .string (bs mo) := g72
      have hc := hE.const
      intro ug hgg
      obtain rfl : ug = .bool true := hgg
      refine ⟨fun _ => ?_, fun h => absurd rfl h⟩
      have hx := HMZ.out
      exact Reg.Gives.value (v := .bool mz) (w' := wi) (by go_simp) (Reg.OwedH.same hI rfl)
    · obtain rfl := Option.some.inj ho
      intro ρ wi hE hI hs hd
      try dsimp only at hI
      obtain ⟨u71, g71, e71⟩ := hd 11 71 (by kernel_rfl) (by kernel_rfl) (by show _ < 80; decide)
      obtain rfl : u71 = .bool mz := g71
      obtain ⟨u73, g73, e73⟩ := hd 13 73 (by kernel_rfl) (by kernel_rfl) (by show _ < 80; decide)
      obtain rfl : u73 = .bool mz := g73
      intro ug hgg
      obtain rfl : ug = .bool true := hgg
      refine ⟨fun _ => ?_, fun h => absurd rfl h⟩
      exact Reg.Gives.value (v := .bool true) (w' := wi) (by go_simp) (Reg.OwedH.same hI rfl)
    · obtain rfl := Option.some.inj ho
      intro ρ wi hE hI hs hd
      try dsimp only at hI
      obtain ⟨u69, g69, e69⟩ := hd 9 69 (by kernel_rfl) (by kernel_rfl) (by show _ < 80; decide)
      obtain rfl : u69 = .bool true := g69
      obtain ⟨u74, g74, e74⟩ := hd 14 74 (by kernel_rfl) (by kernel_rfl) (by show _ < 80; decide)
      obtain rfl : u74 = .bool true := g74
      have hc := hE.const
      exact Reg.Gives.value (v := .bool true) (w' := wi) (by go_simp) (Reg.OwedH.same hI rfl)
    · obtain rfl := Option.some.inj ho
      intro ρ wi hE hI hs hd
      try dsimp only at hI
      obtain ⟨u75, g75, e75⟩ := hd 15 75 (by kernel_rfl) (by kernel_rfl) (by show _ < 80; decide)
      obtain rfl : u75 = .bool true := g75
      exact Reg.Gives.value (v := .bool true) (w' := wi) (by go_simp) (Reg.OwedH.same hI rfl)
    · obtain rfl := Option.some.inj ho
      intro ρ wi hE hI hs hd
      try dsimp only at hI
      have e14 : ρ (.tmp 14) = .int .i64 2 := hs 14 (by kernel_rfl)
      intro ug hgg
      obtain rfl : ug = .bool true := hgg
      refine ⟨fun _ => ?_, fun h => absurd rfl h⟩
      exact Reg.Gives.value (v := .int .i64 2) (w' := wi) (by go_simp) (Reg.OwedH.same hI rfl)
    · obtain rfl := Option.some.inj ho
      intro ρ wi hE hI hs hd
      try dsimp only at hI
      obtain ⟨u77, g77, e77⟩ := hd 17 77 (by kernel_rfl) (by kernel_rfl) (by show _ < 80; decide)
      obtain rfl : u77 = .int .i64 2 := g77
      have hc := hE.const
      intro ug hgg
      obtain rfl : ug = .bool true := hgg
      refine ⟨fun _ => ?_, fun h => absurd rfl h⟩
      exact Reg.Gives.value (v := .bool true) (w' := wi) (by go_simp) (Reg.OwedH.same hI rfl)
    · obtain rfl := Option.some.inj ho
      intro ρ wi hE hI hs hd
      try dsimp only at hI
      obtain ⟨u76, g76, e76⟩ := hd 16 76 (by kernel_rfl) (by kernel_rfl) (by show _ < 80; decide)
      obtain rfl : u76 = .bool true := g76
      obtain ⟨u78, g78, e78⟩ := hd 18 78 (by kernel_rfl) (by kernel_rfl) (by show _ < 80; decide)
      obtain rfl : u78 = .bool true := g78
      have hc := hE.const
      exact Reg.Gives.value (v := .bool true) (w' := wi) (by go_simp) (Reg.OwedH.same hI rfl)
    · obtain rfl := Option.some.inj ho
      intro ρ wi hE hI hs hd
      try dsimp only at hI
      obtain ⟨u79, g79, e79⟩ := hd 19 79 (by kernel_rfl) (by kernel_rfl) (by show _ < 80; decide)
      obtain rfl : u79 = .bool true := g79
      exact Reg.Gives.value (v := .bool true) (w' := wi) (by go_simp) (Reg.OwedH.same hI rfl)
    · omega
  · intro V wa hV hI
    have hV20 : V 20 = .bool true := hV 20 (by decide) rfl
    simp only [Reg.putsO, List.foldl_cons, List.foldl_nil, Act.put, List.setIfInBounds_toArray, List.set_cons_succ, List.set_cons_zero, hV20]
    replace hI : (fun a => Below wr.heap.size wr a) wa := hI
    clear hV hV20
    have HW := Lib.hid (HBR.out.trans (hI.mono HBR.out.size))
    clear hI
    go_wp2_with fail
    go_returns
    exact ⟨rfl, HW.out⟩

theorem opened {H : Type} {enc : TypeId × Value → H} {W : World} {base : Nat} {gs : List (DataW H)} (v0 : Value) (d0 : DataW H) (p0 : List MemPlace) (v1 : Value) (d1 : DataW H) (p1 : List MemPlace) (v2 : Value) (d2 : DataW H) (p2 : List MemPlace)
    (o0 : Value.okWide Try.prog W .any base 27 v0) (t0 : DataW.Trod enc Try.prog W 0 (fun _ => true) true 27 v0 d0 p0)
    (o1 : Value.okWide Try.prog W .any base 27 v1) (t1 : DataW.Trod enc Try.prog W 0 (fun _ => true) true 27 v1 d1 p1)
    (o2 : Value.okWide Try.prog W .any base 9 v2) (t2 : DataW.Trod enc Try.prog W 0 (fun _ => true) true 9 v2 d2 p2)
    (hsz : (DataW.weightsEach Try.prog ([27, 27, 9] ++ []) ([d0, d1, d2] ++ gs)).all (· ≤ reachBytes) = true) :
    Calls Try.prog 5 #[v0, v1, v2] W fun e W' => e = .returned (.bool true) ∧ Below W.heap.size W W' := by
  obtain ⟨a, ya, rfl, ha, oa, la1, la2⟩ := open_rec o0 t0
  obtain ⟨b, yb, rfl, hb, ob, lb1, lb2⟩ := open_rec o1 t1
  obtain ⟨s, rfl, rfl, rfl, _⟩ := Go.ChangeMaps.open_string Try.underlying9 o2 t2
  have hs : s.data.toList.length ≤ 140737488355328 := by
    have h2 := (Base.small_of hsz (j := 2) (t := 9) (d := .lit (.string s.data.toList)) rfl rfl).text
    omega
  rw [← bs_eq s]
  exact walk a b ya yb s.data.toList W ha hb oa ob ⟨la1, la2⟩ ⟨lb1, lb2⟩ hs

theorem contract (H : Type) (enc : TypeId × Value → H) (W : World) (base : Nat) (args : Array Value) (ds gs : List (DataW H)) (before : List MemPlace)
    (hval : ∀ (j : Nat) t v, Try.f5.params[j]? = some t → args[j]? = some v → Value.okWide Try.prog W .any base t v)
    (hW : DataW.Whole enc Try.prog Try.f5.params.toList Rows.msgUnlikeSpec.vars false W args.toList ds gs before)
    (hsz : (DataW.weightsEach Try.prog (Try.f5.params.toList ++ []) (ds ++ gs)).all (· ≤ reachBytes) = true) :
    Calls Try.prog 5 args W fun e W' => ∃ v, e = .returned v ∧ Rows.msgUnlikeSpec.post enc Try.prog Try.f5 false true false false W args v W' := by
  have hW0 := hW
  obtain ⟨p, q, hA0, hV, rfl, _, _⟩ := hW
  have hA : DataW.TrodAll enc Try.prog W 0 (fun _ => true) true Try.f5.params.toList args.toList ds p := hA0
  rw [Try.params5] at hA hval hsz
  obtain ⟨v0, vs0, d0, ds0, p0, q0, hargs, rfl, rfl, h0, r0⟩ := trodAll_cons hA
  obtain ⟨v1, vs1, d1, ds1, p1, q1, rfl, rfl, rfl, h1, r1⟩ := trodAll_cons r0
  obtain ⟨v2, vs2, d2, ds2, p2, q2, rfl, rfl, rfl, h2, r2⟩ := trodAll_cons r1
  obtain ⟨rfl, rfl, rfl⟩ := trodAll_nil r2
  obtain rfl : args = #[v0, v1, v2] := by cases args; simp_all
  refine (opened v0 d0 p0 v1 d1 p1 v2 d2 p2 (hval 0 27 v0 rfl rfl) h0 (hval 1 27 v1 rfl rfl) h1 (hval 2 9 v2 rfl rfl) h2 hsz).mono fun e W' ⟨he, hb⟩ => ⟨_, he, ?_⟩
  exact Base.law_post (tb := 4) Base.laidOut (by kernel_rfl) rfl Try.underlying4 rfl (fun l hl => by
    rw [Try.params5] at hl
    match l, hl with
    | [_, _, _], _ => rfl) (by rw [Try.params5]; rfl) hW0 hb

theorem laid_met (os : Os) : laidMet Try.prog Rows.msgUnlikeRow.laid ((Base.plainWorld os).forCall (fun _ _ => 0) ⟨#[], #[.agg #[.int .i64 0, .int .i64 0, .int .i64 0, .int .i64 0, .slice none 0 0, .slice none 0 0, .int .i64 0, .int .i64 0, .int .i64 0, .int .i64 0, .int .i64 0, .int .i64 0, .bool false], .agg #[.int .i64 0, .int .i64 0, .int .i64 0, .int .i64 0, .slice none 0 0, .slice none 0 0, .int .i64 0, .int .i64 0, .int .i64 0, .int .i64 0, .int .i64 0, .int .i64 0, .bool false], .string ⟨#[]⟩], []⟩).memory := laidMet_nil _ _
theorem reads (os : Os) {H : Type} (enc : TypeId × Value → H) : ∃ places, DataW.whole enc Try.prog ((Base.plainWorld os).forCall (fun _ _ => 0) ⟨#[], #[.agg #[.int .i64 0, .int .i64 0, .int .i64 0, .int .i64 0, .slice none 0 0, .slice none 0 0, .int .i64 0, .int .i64 0, .int .i64 0, .int .i64 0, .int .i64 0, .int .i64 0, .bool false], .agg #[.int .i64 0, .int .i64 0, .int .i64 0, .int .i64 0, .slice none 0 0, .slice none 0 0, .int .i64 0, .int .i64 0, .int .i64 0, .int .i64 0, .int .i64 0, .int .i64 0, .bool false], .string ⟨#[]⟩], []⟩).memory Try.f5.params.toList Rows.msgUnlikeSpec.vars false (#[.agg #[.int .i64 0, .int .i64 0, .int .i64 0, .int .i64 0, .slice none 0 0, .slice none 0 0, .int .i64 0, .int .i64 0, .int .i64 0, .int .i64 0, .int .i64 0, .int .i64 0, .bool false], .agg #[.int .i64 0, .int .i64 0, .int .i64 0, .int .i64 0, .slice none 0 0, .slice none 0 0, .int .i64 0, .int .i64 0, .int .i64 0, .int .i64 0, .int .i64 0, .int .i64 0, .bool false], .string ⟨#[]⟩] : Array Value).toList 8 = some ([.agg [.lit (.int .i64 0), .agg [.lit (.int .i64 0), .lit (.int .i64 0), .lit (.int .i64 0)], .nil, .nil, .lit (.int .i64 0), .lit (.int .i64 0), .lit (.int .i64 0), .lit (.int .i64 0), .lit (.int .i64 0), .lit (.int .i64 0), .lit (.bool false)], .agg [.lit (.int .i64 0), .agg [.lit (.int .i64 0), .lit (.int .i64 0), .lit (.int .i64 0)], .nil, .nil, .lit (.int .i64 0), .lit (.int .i64 0), .lit (.int .i64 0), .lit (.int .i64 0), .lit (.int .i64 0), .lit (.int .i64 0), .lit (.bool false)], .lit (.string [])], [], places) :=
  ⟨[], by kernel_rfl⟩

set_option maxRecDepth 100000 in
theorem lifted (os : Os) (started : os.Started) (H : Type) (enc : TypeId × Value → H) (F : Stop.Interp) :
    ReturnsInHanded {} Try.checked os 5 .any ((OpenSpec.ofChange Rows.msgUnlikeSpec).preRow enc Try.prog Try.f5 Rows.msgUnlikeRow.domain false Rows.msgUnlikeRow.laid) (((OpenSpec.ofChange Rows.msgUnlikeSpec).at F).post enc Try.prog Try.f5 false true false false) := by
  obtain ⟨places, hx⟩ := reads os enc
  refine returnsInHanded_of_row (C := Try.checked) (s := OpenSpec.ofChange Rows.msgUnlikeSpec) Base.own started (by kernel_rfl) Try.func5
    (witness_row_at (enc := enc) (C := Try.checked) false (Base.plainWorld os) #[.agg #[.int .i64 0, .int .i64 0, .int .i64 0, .int .i64 0, .slice none 0 0, .slice none 0 0, .int .i64 0, .int .i64 0, .int .i64 0, .int .i64 0, .int .i64 0, .int .i64 0, .bool false], .agg #[.int .i64 0, .int .i64 0, .int .i64 0, .int .i64 0, .slice none 0 0, .slice none 0 0, .int .i64 0, .int .i64 0, .int .i64 0, .int .i64 0, .int .i64 0, .int .i64 0, .bool false], .string ⟨#[]⟩] rfl (by kernel_rfl) (by kernel_rfl) (by kernel_rfl)
      (OpenSpec.preRow_of_cond 8 hx (by kernel_rfl) (fun k hk => by cases hk) (by kernel_rfl) (laid_met os))) ?_
  intro W base args ds gs before hval hW _ _ hsz _ _ _
  exact contract H enc W base args ds gs before hval hW hsz

theorem said : Rows.MsgUnlikeSaid :=
  OpenClaim.holds_of_cond 5 Try.f5 rfl rfl rfl rfl rfl rfl rfl ⟨rfl, rfl, rfl, rfl, rfl⟩ rfl rfl rfl rfl rfl (by kernel_rfl) Try.func5 (by kernel_rfl)
    (of_decide_eq_true (by kernel_rfl)) (by unfold Func.isWrapper; rw [if_neg (of_decide_eq_false (by kernel_rfl))]; exact ⟨rfl, rfl⟩)
    (fun os started H enc _ F => by rw [OpenClaim.pre_eq_preRow]; exact lifted os started H enc F)
#print axioms said
end Go.Proofs.Ytaekfbhkphlenaa.MsgUnlike
