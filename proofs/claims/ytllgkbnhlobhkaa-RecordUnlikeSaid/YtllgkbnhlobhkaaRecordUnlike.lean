/-
  RecordUnlike is proved: two right records have the same bytes just if they are the same. Conditions: none.
-/
import Derived.Test.YtllgkbnhlobhkaaRecOpen
import Derived.Test.YtllgkbnhlobhkaaRecSame
import Derived.Test.YtllgkbnhlobhkaaRecMath
namespace Go.Proofs.Ytllgkbnhlobhkaa.RecordUnlike
set_option maxRecDepth 100000
open Go.ChangeShapes Go.WideShapes Go.ChangeAt Go.RowKit Go.Proofs.Ytllgkbnhlobhkaa.Mem Go.Proofs.Ytllgkbnhlobhkaa.Item Go.Proofs.Ytllgkbnhlobhkaa.Rec

def rUnlike_A (n1 : Int) : Nat → Value → World → Prop
  | 0, v, _ => v = .int .i64 n1
  | 1, v, _ => v = .bool true
  | 2, v, _ => v = .bool true
  | 3, v, _ => v = undef
  | 4, v, _ => v = undef
  | 5, v, _ => v = .bool true
  | 6, v, _ => v = .bool true
  | 7, v, _ => v = undef
  | 8, v, _ => v = undef
  | 9, v, _ => v = undef
  | 10, v, _ => v = undef
  | 11, v, _ => v = undef
  | 12, v, _ => v = undef
  | 13, v, _ => v = undef
  | 14, v, _ => v = undef
  | 15, v, _ => v = undef
  | 16, v, _ => v = .bool true
  | 17, v, _ => v = .bool true
  | _, _, _ => True
def rUnlike_B (n1 n2 : Int) : Nat → Value → World → Prop
  | 0, v, _ => v = .int .i64 n1
  | 1, v, _ => v = .bool false
  | 2, v, _ => v = .bool false
  | 3, v, _ => v = .int .i64 n2
  | 4, v, _ => v = .bool true
  | 5, v, _ => v = .bool true
  | 6, v, _ => v = .bool true
  | 7, v, _ => v = undef
  | 8, v, _ => v = undef
  | 9, v, _ => v = undef
  | 10, v, _ => v = undef
  | 11, v, _ => v = undef
  | 12, v, _ => v = undef
  | 13, v, _ => v = undef
  | 14, v, _ => v = undef
  | 15, v, _ => v = undef
  | 16, v, _ => v = .bool true
  | 17, v, _ => v = .bool true
  | _, _, _ => True
def rUnlike_C (va vb : Value) (n1 n2 : Int) (m1 m2 : List UInt8) (sv : Bool) : Nat → Value → World → Prop
  | 0, v, _ => v = .int .i64 n1
  | 1, v, _ => v = .bool false
  | 2, v, _ => v = .bool false
  | 3, v, _ => v = .int .i64 n2
  | 4, v, _ => v = .bool false
  | 5, v, _ => v = .bool false
  | 6, v, _ => v = .bool false
  | 7, v, _ => v = .string (bs m1)
  | 8, v, _ => v = .string (bs m2)
  | 9, v, _ => v = .bool sv
  | 10, v, _ => v = va
  | 11, v, _ => v = va
  | 12, v, _ => v = vb
  | 13, v, _ => v = vb
  | 14, v, _ => v = .bool sv
  | 15, v, _ => v = .bool true
  | 16, v, _ => v = .bool true
  | 17, v, _ => v = .bool true
  | _, _, _ => True
theorem rUnlike_C_later {va vb : Value} {n1 n2 : Int} {m1 m2 : List UInt8} {sv : Bool} {j : Nat} {v : Value} {w w' : World} (_hb : Below w.heap.size w w') (h : rUnlike_C va vb n1 n2 m1 m2 sv j v w) : rUnlike_C va vb n1 n2 m1 m2 sv j v w' := by
  match j, h with
  | 0, h | 1, h | 2, h | 3, h | 4, h | 5, h | 6, h | 7, h | 8, h | 9, h | 10, h | 11, h | 12, h | 13, h | 14, h | 15, h | 16, h | 17, h => exact h
  | _ + 18, _ => exact trivial
theorem toList_bs (a b : List UInt8) : ((bs a).toList == (bs b).toList) = decide (a = b) := by
  by_cases h : a = b
  · subst h; simp
  · rw [decide_eq_false h]
    exact str_ne fun e => h (by rw [← bs_list a, e, bs_list])
theorem unlike (a b : Rc) (oa : a.ok) (ob : b.ok) (h1 : (enc a).2 = 0) (h2 : (enc b).2 = 0) : (enc a).1 = (enc b).1 ↔ a = b := by
  unfold enc at h1 h2 ⊢
  by_cases ra : right a = true
  · by_cases rb : right b = true
    · rw [if_pos ra, if_pos rb]
      exact ⟨fun h => bytes_inj ra rb oa ob h, fun h => by rw [h]⟩
    · rw [if_neg rb] at h2; cases h2
  · rw [if_neg ra] at h1; cases h1
set_option maxHeartbeats 4000000 in
theorem walk (a b : Rc) (ya yb : Lay) (w : World) (ha : Has w a ya) (hb : Has w b yb) (oa : a.ok) (ob : b.ok) (la : a.items.length ≤ maxLen ∧ a.nodes.length ≤ maxLen) (lb : b.items.length ≤ maxLen ∧ b.nodes.length ≤ maxLen) :
    Calls Try.prog 7 #[a.val ya, b.val yb] w fun e w' => e = .returned (.bool true) ∧ Below w.heap.size w w' := by
  unfold maxLen at la lb
  have HEA := Lib.hid (fun w' (h : Below w.heap.size w w') (h1 : a.items.length ≤ 100) (h2 : a.nodes.length ≤ 100) => encode_any a ya w' (ha.later h) h1 h2)
  have HEB := Lib.hid (fun w' (h : Below w.heap.size w w') (h1 : b.items.length ≤ 100) (h2 : b.nodes.length ≤ 100) => encode_any b yb w' (hb.later h) h1 h2)
  have HPA := Lib.hid (fun w' => plain_any a ya w')
  have HPB := Lib.hid (fun w' => plain_any b yb w')
  have HSM := Lib.hid (fun w' (h : Below w.heap.size w w') (h1 : a.items.length ≤ 100) (h2 : a.nodes.length ≤ 100) => same_any a b ya yb w' (ha.later h) (hb.later h) (by omega) (by omega))
  have HUN := Lib.hid (unlike a b oa ob)
  clear ha hb oa ob
  obtain ⟨Q, hQ⟩ : ∃ Q : Prop, (a = b) = Q := ⟨_, rfl⟩
  obtain ⟨⟨m1, n1⟩, hE1⟩ : ∃ E, enc a = E := ⟨_, rfl⟩
  obtain ⟨⟨m2, n2⟩, hE2⟩ : ∃ E, enc b = E := ⟨_, rfl⟩
  simp only [hQ] at HSM HUN
  rw [hE1] at HEA HUN
  rw [hE2] at HEB HUN
  simp only at HUN
  clear hE1 hE2 hQ
  obtain ⟨kp, ⟨t1p, t2p, t3p⟩, itsp, ndsp, a0p, a1p, a2p, a3p, a4p, a5p, a6p, a7p, yesp⟩ := a
  obtain ⟨Ap, cp, Bp, dp⟩ := ya
  obtain ⟨kq, ⟨t1q, t2q, t3q⟩, itsq, ndsq, a0q, a1q, a2q, a3q, a4q, a5q, a6q, a7q, yesq⟩ := b
  obtain ⟨Aq, cq, Bq, dq⟩ := yb
  simp only at la lb HEA HEB HSM
  generalize hLp : itsp.length = Lp at HEA HPA HSM la ⊢
  generalize hMp : ndsp.length = Mp at HEA HPA HSM la ⊢
  generalize hLq : itsq.length = Lq at HEB HPB HSM lb ⊢
  generalize hMq : ndsq.length = Mq at HEB HPB HSM lb ⊢
  unfold Rc.val at HEA HEB HPA HPB HSM ⊢
  simp only [hLp, hMp, hLq, hMq] at HEA HEB HPA HPB HSM ⊢
  clear hLp hMp hLq hMq
  obtain ⟨w2, hw2⟩ : ∃ w2, w2 = (w.alloc (.cells #[.int .i64 kp, .int .i64 t1p, .int .i64 t2p, .int .i64 t3p, .slice Ap Lp cp, .slice Bp Mp dp, .int .i64 a0p, .int .i64 a1p, .int .i64 a2p, .int .i64 a3p, .int .i64 a4p, .int .i64 a5p, .int .i64 a6p, .int .i64 a7p, .bool yesp] 35)).alloc (.cells #[.int .i64 kq, .int .i64 t1q, .int .i64 t2q, .int .i64 t3q, .slice Aq Lq cq, .slice Bq Mq dq, .int .i64 a0q, .int .i64 a1q, .int .i64 a2q, .int .i64 a3q, .int .i64 a4q, .int .i64 a5q, .int .i64 a6q, .int .i64 a7q, .bool yesq] 35) := ⟨_, rfl⟩
  have HB2 : Hid (Below w.heap.size w w2) := Lib.hid (by rw [hw2]; exact Go.Joins.below_alloc2 _ _ _)
  have HCA : Hid (Cells w2 w.heap.size 35 _) := Lib.hid (by rw [hw2]; exact (cells_new w 35 _ #[.int .i64 kp, .int .i64 t1p, .int .i64 t2p, .int .i64 t3p, .slice Ap Lp cp, .slice Bp Mp dp, .int .i64 a0p, .int .i64 a1p, .int .i64 a2p, .int .i64 a3p, .int .i64 a4p, .int .i64 a5p, .int .i64 a6p, .int .i64 a7p, .bool yesp] rfl).later (below_alloc _ _))
  have HCB : Hid (Cells w2 (w.heap.size + 1) 35 _) := Lib.hid (by
    rw [hw2]
    have h7 := cells_new (w.alloc (.cells #[.int .i64 kp, .int .i64 t1p, .int .i64 t2p, .int .i64 t3p, .slice Ap Lp cp, .slice Bp Mp dp, .int .i64 a0p, .int .i64 a1p, .int .i64 a2p, .int .i64 a3p, .int .i64 a4p, .int .i64 a5p, .int .i64 a6p, .int .i64 a7p, .bool yesp] 35)) 35 _ #[.int .i64 kq, .int .i64 t1q, .int .i64 t2q, .int .i64 t3q, .slice Aq Lq cq, .slice Bq Mq dq, .int .i64 a0q, .int .i64 a1q, .int .i64 a2q, .int .i64 a3q, .int .i64 a4q, .int .i64 a5q, .int .i64 a6q, .int .i64 a7q, .bool yesq] rfl
    rw [show (w.alloc (.cells #[.int .i64 kp, .int .i64 t1p, .int .i64 t2p, .int .i64 t3p, .slice Ap Lp cp, .slice Bp Mp dp, .int .i64 a0p, .int .i64 a1p, .int .i64 a2p, .int .i64 a3p, .int .i64 a4p, .int .i64 a5p, .int .i64 a6p, .int .i64 a7p, .bool yesp] 35)).heap.size = w.heap.size + 1 by simp] at h7
    exact h7)
  go_enter Try.func7, Try.ntmps7
  go_wp2_with fail
  rw [← hw2]
  clear hw2
  refine (rawake_any _).mono ?_
  rintro e w3 ⟨rfl, hb3⟩
  have HB3 := Lib.hid (HB2.out.trans (hb3.mono HB2.out.size))
  have HCA3 := Lib.hid (HCA.out.later hb3)
  have HCB3 := Lib.hid (HCB.out.later hb3)
  have hca := HCA3.out
  have hcb := HCB3.out
  have p0 := hca.cell (j := 0) rfl
  have p1 := hca.cell (j := 1) rfl
  have p2 := hca.cell (j := 2) rfl
  have p3 := hca.cell (j := 3) rfl
  have p4 := hca.cell (j := 4) rfl
  have p5 := hca.cell (j := 5) rfl
  have p6 := hca.cell (j := 6) rfl
  have p7 := hca.cell (j := 7) rfl
  have p8 := hca.cell (j := 8) rfl
  have p9 := hca.cell (j := 9) rfl
  have p10 := hca.cell (j := 10) rfl
  have p11 := hca.cell (j := 11) rfl
  have p12 := hca.cell (j := 12) rfl
  have p13 := hca.cell (j := 13) rfl
  have p14 := hca.cell (j := 14) rfl
  have q0 := hcb.cell (j := 0) rfl
  have q1 := hcb.cell (j := 1) rfl
  have q2 := hcb.cell (j := 2) rfl
  have q3 := hcb.cell (j := 3) rfl
  have q4 := hcb.cell (j := 4) rfl
  have q5 := hcb.cell (j := 5) rfl
  have q6 := hcb.cell (j := 6) rfl
  have q7 := hcb.cell (j := 7) rfl
  have q8 := hcb.cell (j := 8) rfl
  have q9 := hcb.cell (j := 9) rfl
  have q10 := hcb.cell (j := 10) rfl
  have q11 := hcb.cell (j := 11) rfl
  have q12 := hcb.cell (j := 12) rfl
  have q13 := hcb.cell (j := 13) rfl
  have q14 := hcb.cell (j := 14) rfl
  clear hb3 hca hcb
  by_cases g1 : 60 < Lp
  · go_wp2_with fail
    go_returns
    exact ⟨rfl, HB3.out⟩
  by_cases g2 : 60 < Mp
  · go_wp2_with fail
    go_returns
    exact ⟨rfl, HB3.out⟩
  by_cases g3 : 60 < Lq
  · go_wp2_with fail
    go_returns
    exact ⟨rfl, HB3.out⟩
  by_cases g4 : 60 < Mq
  · go_wp2_with fail
    go_returns
    exact ⟨rfl, HB3.out⟩
  have HG : Hid (Lp ≤ 100 ∧ Mp ≤ 100 ∧ Lq ≤ 100 ∧ Mq ≤ 100) := Lib.hid ⟨by omega, by omega, by omega, by omega⟩
  go_wp2_with fail
  refine (HEA.out _ HB3.out HG.out.1 HG.out.2.1).mono ?_
  rintro e w4 ⟨rfl, hb4⟩
  have HB4 := Lib.hid (HB3.out.trans (hb4.mono HB3.out.size))
  have HCA4 := Lib.hid (HCA3.out.later hb4)
  have HCB4 := Lib.hid (HCB3.out.later hb4)
  clear hb4 p0 p1 p2 p3 p4 p5 p6 p7 p8 p9 p10 p11 p12 p13 p14 q0 q1 q2 q3 q4 q5 q6 q7 q8 q9 q10 q11 q12 q13 q14 g1 g2 g3 g4
  have hcb := HCB4.out
  have q0 := hcb.cell (j := 0) rfl
  have q1 := hcb.cell (j := 1) rfl
  have q2 := hcb.cell (j := 2) rfl
  have q3 := hcb.cell (j := 3) rfl
  have q4 := hcb.cell (j := 4) rfl
  have q5 := hcb.cell (j := 5) rfl
  have q6 := hcb.cell (j := 6) rfl
  have q7 := hcb.cell (j := 7) rfl
  have q8 := hcb.cell (j := 8) rfl
  have q9 := hcb.cell (j := 9) rfl
  have q10 := hcb.cell (j := 10) rfl
  have q11 := hcb.cell (j := 11) rfl
  have q12 := hcb.cell (j := 12) rfl
  have q13 := hcb.cell (j := 13) rfl
  have q14 := hcb.cell (j := 14) rfl
  clear hcb
  go_wp2_with fail
  refine (HEB.out _ HB4.out HG.out.2.2.1 HG.out.2.2.2).mono ?_
  rintro e wr ⟨rfl, hb5⟩
  have HB5 := Lib.hid (HB4.out.trans (hb5.mono HB4.out.size))
  have hca5 := HCA4.out.later hb5
  have hcb5 := HCB4.out.later hb5
  have HQA : Hid (∀ wi, Below wr.heap.size wr wi → Cells wi w.heap.size 35 _) := Lib.hid (fun wi hi => hca5.later hi)
  have HQB : Hid (∀ wi, Below wr.heap.size wr wi → Cells wi (w.heap.size + 1) 35 _) := Lib.hid (fun wi hi => hcb5.later hi)
  have HSM := Lib.hid (fun w' (h : Below wr.heap.size wr w') => HSM.out w' (HB5.out.trans (h.mono HB5.out.size)) HG.out.1 HG.out.2.1)
  clear hb5 hca5 hcb5 q0 q1 q2 q3 q4 q5 q6 q7 q8 q9 q10 q11 q12 q13 q14
  by_cases h1 : n1 = 0
  · by_cases h2 : n2 = 0
    · have HN1 : Hid ((n1 != 0) = false) := Lib.hid (by simp [h1])
      have HN2 : Hid ((n2 != 0) = false) := Lib.hid (by simp [h2])
      have HUV := Lib.hid (HUN.out h1 h2)
      obtain ⟨sv, hv⟩ : ∃ sv, decide (m1 = m2) = sv := ⟨_, rfl⟩
      have HSV : Hid (((bs m1).toList == (bs m2).toList) = sv) := Lib.hid (by rw [toList_bs, hv])
      have HVQ : Hid (∀ v', (v' = true ↔ Q) → v' = sv) := Lib.hid (fun v' hv' => by
        rw [← HUV.out, ← decide_eq_true_iff (p := m1 = m2), hv] at hv'
        cases sv <;> cases v' <;> simp_all)
      clear hv h1 h2
      go_wp2_with fail
      refine Reg.region_heavy (by kernel_rfl) 17 [17] (rUnlike_C (.agg #[.int .i64 kp, .int .i64 t1p, .int .i64 t2p, .int .i64 t3p, .slice Ap Lp cp, .slice Bp Mp dp, .int .i64 a0p, .int .i64 a1p, .int .i64 a2p, .int .i64 a3p, .int .i64 a4p, .int .i64 a5p, .int .i64 a6p, .int .i64 a7p, .bool yesp]) (.agg #[.int .i64 kq, .int .i64 t1q, .int .i64 t2q, .int .i64 t3q, .slice Aq Lq cq, .slice Bq Mq dq, .int .i64 a0q, .int .i64 a1q, .int .i64 a2q, .int .i64 a3q, .int .i64 a4q, .int .i64 a5q, .int .i64 a6q, .int .i64 a7q, .bool yesq]) n1 n2 m1 m2 sv) (fun a => Below wr.heap.size wr a) (fun a => Below wr.heap.size wr a) (fun V => [(some 43, V 0), (some 44, V 1), (some 45, V 2), (some 46, V 3), (some 47, V 4), (some 48, V 5), (some 49, V 6), (some 50, V 7), (some 51, V 8), (some 52, V 9), (some 53, V 10), (some 54, V 11), (some 55, V 12), (some 56, V 13), (some 57, V 14), (some 58, V 15), (some 59, V 16), (some 4, V 17)]) (by kernel_rfl) (by kernel_rfl) (by kernel_rfl) (fun V => rfl) ?_ ?_ ?_
      · exact (Below.refl _ _).drew
      · intro i o ho
        have hi : i < 18 := (Array.getElem?_eq_some_iff.1 ho).1
        rcases i with _ | _ | _ | _ | _ | _ | _ | _ | _ | _ | _ | _ | _ | _ | _ | _ | _ | _ | i
        · obtain rfl := Option.some.inj ho
          intro ρ wi hE hI hs hd
          replace hI : (fun a => Below wr.heap.size wr a) wi := hI
          have e6 : ρ (.tmp 6) = .int .i64 n1 := hs 6 (by kernel_rfl)
          exact Reg.Gives.value (v := .int .i64 n1) (w' := wi) (by go_simp) (Reg.OwedH.same hI rfl)
        · obtain rfl := Option.some.inj ho
          intro ρ wi hE hI hs hd
          replace hI : (fun a => Below wr.heap.size wr a) wi := hI
          obtain ⟨u43, g43, e43⟩ := hd 0 43 (by kernel_rfl) (by kernel_rfl) (by show _ < 60; decide)
          obtain rfl : u43 = .int .i64 n1 := g43
          have hc := hE.const
          have hx := HN1.out
          exact Reg.Gives.value (v := .bool false) (w' := wi) (by go_simp) (Reg.OwedH.same hI rfl)
        · obtain rfl := Option.some.inj ho
          intro ρ wi hE hI hs hd
          replace hI : (fun a => Below wr.heap.size wr a) wi := hI
          obtain ⟨u44, g44, e44⟩ := hd 1 44 (by kernel_rfl) (by kernel_rfl) (by show _ < 60; decide)
          obtain rfl : u44 = .bool false := g44
          exact Reg.Gives.value (v := .bool false) (w' := wi) (by go_simp) (Reg.OwedH.same hI rfl)
        · obtain rfl := Option.some.inj ho
          intro ρ wi hE hI hs hd
          replace hI : (fun a => Below wr.heap.size wr a) wi := hI
          have e8 : ρ (.tmp 8) = .int .i64 n2 := hs 8 (by kernel_rfl)
          intro ug hgg
          obtain rfl : ug = .bool false := hgg
          refine ⟨fun _ => ?_, fun h => absurd rfl h⟩
          exact Reg.Gives.value (v := .int .i64 n2) (w' := wi) (by go_simp) (Reg.OwedH.same hI rfl)
        · obtain rfl := Option.some.inj ho
          intro ρ wi hE hI hs hd
          replace hI : (fun a => Below wr.heap.size wr a) wi := hI
          obtain ⟨u46, g46, e46⟩ := hd 3 46 (by kernel_rfl) (by kernel_rfl) (by show _ < 60; decide)
          obtain rfl : u46 = .int .i64 n2 := g46
          have hc := hE.const
          intro ug hgg
          obtain rfl : ug = .bool false := hgg
          refine ⟨fun _ => ?_, fun h => absurd rfl h⟩
          have hx := HN2.out
          exact Reg.Gives.value (v := .bool false) (w' := wi) (by go_simp) (Reg.OwedH.same hI rfl)
        · obtain rfl := Option.some.inj ho
          intro ρ wi hE hI hs hd
          replace hI : (fun a => Below wr.heap.size wr a) wi := hI
          obtain ⟨u45, g45, e45⟩ := hd 2 45 (by kernel_rfl) (by kernel_rfl) (by show _ < 60; decide)
          obtain rfl : u45 = .bool false := g45
          obtain ⟨u47, g47, e47⟩ := hd 4 47 (by kernel_rfl) (by kernel_rfl) (by show _ < 60; decide)
          obtain rfl : u47 = .bool false := g47
          have hc := hE.const
          exact Reg.Gives.value (v := .bool false) (w' := wi) (by go_simp) (Reg.OwedH.same hI rfl)
        · obtain rfl := Option.some.inj ho
          intro ρ wi hE hI hs hd
          replace hI : (fun a => Below wr.heap.size wr a) wi := hI
          obtain ⟨u48, g48, e48⟩ := hd 5 48 (by kernel_rfl) (by kernel_rfl) (by show _ < 60; decide)
          obtain rfl : u48 = .bool false := g48
          exact Reg.Gives.value (v := .bool false) (w' := wi) (by go_simp) (Reg.OwedH.same hI rfl)
        · obtain rfl := Option.some.inj ho
          intro ρ wi hE hI hs hd
          replace hI : (fun a => Below wr.heap.size wr a) wi := hI
          have e5 : ρ (.tmp 5) = .string (bs m1) := hs 5 (by kernel_rfl)
          intro ug hgg
          obtain rfl : ug = .bool false := hgg
          refine ⟨fun _ => ?_, fun h => absurd rfl h⟩
          exact Reg.Gives.value (v := .string (bs m1)) (w' := wi) (by go_simp) (Reg.OwedH.same hI rfl)
        · obtain rfl := Option.some.inj ho
          intro ρ wi hE hI hs hd
          replace hI : (fun a => Below wr.heap.size wr a) wi := hI
          have e7 : ρ (.tmp 7) = .string (bs m2) := hs 7 (by kernel_rfl)
          intro ug hgg
          obtain rfl : ug = .bool false := hgg
          refine ⟨fun _ => ?_, fun h => absurd rfl h⟩
          exact Reg.Gives.value (v := .string (bs m2)) (w' := wi) (by go_simp) (Reg.OwedH.same hI rfl)
        · obtain rfl := Option.some.inj ho
          intro ρ wi hE hI hs hd
          replace hI : (fun a => Below wr.heap.size wr a) wi := hI
          obtain ⟨u50, g50, e50⟩ := hd 7 50 (by kernel_rfl) (by kernel_rfl) (by show _ < 60; decide)
          obtain rfl : u50 = .string (bs m1) := g50
          obtain ⟨u51, g51, e51⟩ := hd 8 51 (by kernel_rfl) (by kernel_rfl) (by show _ < 60; decide)
          obtain rfl : u51 = .string (bs m2) := g51
          intro ug hgg
          obtain rfl : ug = .bool false := hgg
          refine ⟨fun _ => ?_, fun h => absurd rfl h⟩
          have hx := HSV.out
          exact Reg.Gives.value (v := .bool sv) (w' := wi) (by go_simp) (Reg.OwedH.same hI rfl)
        · obtain rfl := Option.some.inj ho
          intro ρ wi hE hI hs hd
          replace hI : (fun a => Below wr.heap.size wr a) wi := hI
          have e2 : ρ (.tmp 2) = .pointer (some ⟨w.heap.size, 0, none⟩) := hs 2 (by kernel_rfl)
          intro ug hgg
          obtain rfl : ug = .bool false := hgg
          refine ⟨fun _ => ?_, fun h => absurd rfl h⟩
          have hc := HQA.out wi hI
          have q0 := hc.cell (j := 0) rfl
          have q1 := hc.cell (j := 1) rfl
          have q2 := hc.cell (j := 2) rfl
          have q3 := hc.cell (j := 3) rfl
          have q4 := hc.cell (j := 4) rfl
          have q5 := hc.cell (j := 5) rfl
          have q6 := hc.cell (j := 6) rfl
          have q7 := hc.cell (j := 7) rfl
          have q8 := hc.cell (j := 8) rfl
          have q9 := hc.cell (j := 9) rfl
          have q10 := hc.cell (j := 10) rfl
          have q11 := hc.cell (j := 11) rfl
          have q12 := hc.cell (j := 12) rfl
          have q13 := hc.cell (j := 13) rfl
          have q14 := hc.cell (j := 14) rfl
          exact Reg.Gives.value (v := (.agg #[.int .i64 kp, .int .i64 t1p, .int .i64 t2p, .int .i64 t3p, .slice Ap Lp cp, .slice Bp Mp dp, .int .i64 a0p, .int .i64 a1p, .int .i64 a2p, .int .i64 a3p, .int .i64 a4p, .int .i64 a5p, .int .i64 a6p, .int .i64 a7p, .bool yesp])) (w' := wi) (by go_simp) (Reg.OwedH.same hI rfl)
        · obtain rfl := Option.some.inj ho
          intro ρ wi hE hI hs hd
          replace hI : (fun a => Below wr.heap.size wr a) wi := hI
          obtain ⟨u53, g53, e53⟩ := hd 10 53 (by kernel_rfl) (by kernel_rfl) (by show _ < 60; decide)
          obtain rfl : u53 = (.agg #[.int .i64 kp, .int .i64 t1p, .int .i64 t2p, .int .i64 t3p, .slice Ap Lp cp, .slice Bp Mp dp, .int .i64 a0p, .int .i64 a1p, .int .i64 a2p, .int .i64 a3p, .int .i64 a4p, .int .i64 a5p, .int .i64 a6p, .int .i64 a7p, .bool yesp]) := g53
          have hf := hE.func
          intro ug hgg
          obtain rfl : ug = .bool false := hgg
          refine ⟨fun _ => ?_, fun h => absurd rfl h⟩
          refine Reg.Gives.call (f := 15) (args := #[.agg #[.int .i64 kp, .int .i64 t1p, .int .i64 t2p, .int .i64 t3p, .slice Ap Lp cp, .slice Bp Mp dp, .int .i64 a0p, .int .i64 a1p, .int .i64 a2p, .int .i64 a3p, .int .i64 a4p, .int .i64 a5p, .int .i64 a6p, .int .i64 a7p, .bool yesp]]) (w' := wi) (by go_simp) ?_
          refine (HPA.out wi).mono ?_
          rintro e w'' ⟨rfl, hbb⟩
          exact ⟨_, rfl, ⟨rfl, hI.trans (hbb.mono hI.size), fun j u _ _ h => rUnlike_C_later hbb h⟩⟩
        · obtain rfl := Option.some.inj ho
          intro ρ wi hE hI hs hd
          replace hI : (fun a => Below wr.heap.size wr a) wi := hI
          have e3 : ρ (.tmp 3) = .pointer (some ⟨w.heap.size + 1, 0, none⟩) := hs 3 (by kernel_rfl)
          intro ug hgg
          obtain rfl : ug = .bool false := hgg
          refine ⟨fun _ => ?_, fun h => absurd rfl h⟩
          have hc := HQB.out wi hI
          have q0 := hc.cell (j := 0) rfl
          have q1 := hc.cell (j := 1) rfl
          have q2 := hc.cell (j := 2) rfl
          have q3 := hc.cell (j := 3) rfl
          have q4 := hc.cell (j := 4) rfl
          have q5 := hc.cell (j := 5) rfl
          have q6 := hc.cell (j := 6) rfl
          have q7 := hc.cell (j := 7) rfl
          have q8 := hc.cell (j := 8) rfl
          have q9 := hc.cell (j := 9) rfl
          have q10 := hc.cell (j := 10) rfl
          have q11 := hc.cell (j := 11) rfl
          have q12 := hc.cell (j := 12) rfl
          have q13 := hc.cell (j := 13) rfl
          have q14 := hc.cell (j := 14) rfl
          exact Reg.Gives.value (v := (.agg #[.int .i64 kq, .int .i64 t1q, .int .i64 t2q, .int .i64 t3q, .slice Aq Lq cq, .slice Bq Mq dq, .int .i64 a0q, .int .i64 a1q, .int .i64 a2q, .int .i64 a3q, .int .i64 a4q, .int .i64 a5q, .int .i64 a6q, .int .i64 a7q, .bool yesq])) (w' := wi) (by go_simp) (Reg.OwedH.same hI rfl)
        · obtain rfl := Option.some.inj ho
          intro ρ wi hE hI hs hd
          replace hI : (fun a => Below wr.heap.size wr a) wi := hI
          obtain ⟨u55, g55, e55⟩ := hd 12 55 (by kernel_rfl) (by kernel_rfl) (by show _ < 60; decide)
          obtain rfl : u55 = (.agg #[.int .i64 kq, .int .i64 t1q, .int .i64 t2q, .int .i64 t3q, .slice Aq Lq cq, .slice Bq Mq dq, .int .i64 a0q, .int .i64 a1q, .int .i64 a2q, .int .i64 a3q, .int .i64 a4q, .int .i64 a5q, .int .i64 a6q, .int .i64 a7q, .bool yesq]) := g55
          have hf := hE.func
          intro ug hgg
          obtain rfl : ug = .bool false := hgg
          refine ⟨fun _ => ?_, fun h => absurd rfl h⟩
          refine Reg.Gives.call (f := 15) (args := #[.agg #[.int .i64 kq, .int .i64 t1q, .int .i64 t2q, .int .i64 t3q, .slice Aq Lq cq, .slice Bq Mq dq, .int .i64 a0q, .int .i64 a1q, .int .i64 a2q, .int .i64 a3q, .int .i64 a4q, .int .i64 a5q, .int .i64 a6q, .int .i64 a7q, .bool yesq]]) (w' := wi) (by go_simp) ?_
          refine (HPB.out wi).mono ?_
          rintro e w'' ⟨rfl, hbb⟩
          exact ⟨_, rfl, ⟨rfl, hI.trans (hbb.mono hI.size), fun j u _ _ h => rUnlike_C_later hbb h⟩⟩
        · obtain rfl := Option.some.inj ho
          intro ρ wi hE hI hs hd
          replace hI : (fun a => Below wr.heap.size wr a) wi := hI
          obtain ⟨u54, g54, e54⟩ := hd 11 54 (by kernel_rfl) (by kernel_rfl) (by show _ < 60; decide)
          obtain rfl : u54 = (.agg #[.int .i64 kp, .int .i64 t1p, .int .i64 t2p, .int .i64 t3p, .slice Ap Lp cp, .slice Bp Mp dp, .int .i64 a0p, .int .i64 a1p, .int .i64 a2p, .int .i64 a3p, .int .i64 a4p, .int .i64 a5p, .int .i64 a6p, .int .i64 a7p, .bool yesp]) := g54
          obtain ⟨u56, g56, e56⟩ := hd 13 56 (by kernel_rfl) (by kernel_rfl) (by show _ < 60; decide)
          obtain rfl : u56 = (.agg #[.int .i64 kq, .int .i64 t1q, .int .i64 t2q, .int .i64 t3q, .slice Aq Lq cq, .slice Bq Mq dq, .int .i64 a0q, .int .i64 a1q, .int .i64 a2q, .int .i64 a3q, .int .i64 a4q, .int .i64 a5q, .int .i64 a6q, .int .i64 a7q, .bool yesq]) := g56
          have hf := hE.func
          intro ug hgg
          obtain rfl : ug = .bool false := hgg
          refine ⟨fun _ => ?_, fun h => absurd rfl h⟩
          refine Reg.Gives.call (f := 21) (args := #[.agg #[.int .i64 kp, .int .i64 t1p, .int .i64 t2p, .int .i64 t3p, .slice Ap Lp cp, .slice Bp Mp dp, .int .i64 a0p, .int .i64 a1p, .int .i64 a2p, .int .i64 a3p, .int .i64 a4p, .int .i64 a5p, .int .i64 a6p, .int .i64 a7p, .bool yesp], .agg #[.int .i64 kq, .int .i64 t1q, .int .i64 t2q, .int .i64 t3q, .slice Aq Lq cq, .slice Bq Mq dq, .int .i64 a0q, .int .i64 a1q, .int .i64 a2q, .int .i64 a3q, .int .i64 a4q, .int .i64 a5q, .int .i64 a6q, .int .i64 a7q, .bool yesq]]) (w' := wi) (by go_simp) ?_
          refine (HSM.out wi hI).mono ?_
          rintro e w'' ⟨⟨v', rfl, hv'⟩, hbb⟩
          obtain rfl : v' = sv := HVQ.out v' hv'
          exact ⟨_, rfl, ⟨rfl, hI.trans (hbb.mono hI.size), fun j u _ _ h => rUnlike_C_later hbb h⟩⟩
        · obtain rfl := Option.some.inj ho
          intro ρ wi hE hI hs hd
          replace hI : (fun a => Below wr.heap.size wr a) wi := hI
          obtain ⟨u52, g52, e52⟩ := hd 9 52 (by kernel_rfl) (by kernel_rfl) (by show _ < 60; decide)
          obtain rfl : u52 = .bool sv := g52
          obtain ⟨u57, g57, e57⟩ := hd 14 57 (by kernel_rfl) (by kernel_rfl) (by show _ < 60; decide)
          obtain rfl : u57 = .bool sv := g57
          intro ug hgg
          obtain rfl : ug = .bool false := hgg
          refine ⟨fun _ => ?_, fun h => absurd rfl h⟩
          exact Reg.Gives.value (v := .bool true) (w' := wi) (by go_simp) (Reg.OwedH.same hI rfl)
        · obtain rfl := Option.some.inj ho
          intro ρ wi hE hI hs hd
          replace hI : (fun a => Below wr.heap.size wr a) wi := hI
          obtain ⟨u49, g49, e49⟩ := hd 6 49 (by kernel_rfl) (by kernel_rfl) (by show _ < 60; decide)
          obtain rfl : u49 = .bool false := g49
          obtain ⟨u58, g58, e58⟩ := hd 15 58 (by kernel_rfl) (by kernel_rfl) (by show _ < 60; decide)
          obtain rfl : u58 = .bool true := g58
          have hc := hE.const
          exact Reg.Gives.value (v := .bool true) (w' := wi) (by go_simp) (Reg.OwedH.same hI rfl)
        · obtain rfl := Option.some.inj ho
          intro ρ wi hE hI hs hd
          replace hI : (fun a => Below wr.heap.size wr a) wi := hI
          obtain ⟨u59, g59, e59⟩ := hd 16 59 (by kernel_rfl) (by kernel_rfl) (by show _ < 60; decide)
          obtain rfl : u59 = .bool true := g59
          exact Reg.Gives.value (v := .bool true) (w' := wi) (by go_simp) (Reg.OwedH.same hI rfl)
        · omega
      · intro V wa hV hI
        have hV17 : V 17 = .bool true := hV 17 (by decide) rfl
        simp only [Reg.putsO, List.foldl_cons, List.foldl_nil, Act.put, List.setIfInBounds_toArray, List.set_cons_succ, List.set_cons_zero, hV17]
        replace hI : (fun a => Below wr.heap.size wr a) wa := hI
        clear hV hV17
        have HW := Lib.hid (HB5.out.trans (hI.mono HB5.out.size))
        clear hI
        go_wp2_with fail
        go_returns
        exact ⟨rfl, HW.out⟩
    · have HN1 : Hid ((n1 != 0) = false) := Lib.hid (by simp [h1])
      have HN2 : Hid ((n2 != 0) = true) := Lib.hid (by simp [h2])
      clear h1 h2
      go_wp2_with fail
      refine Reg.region_heavy (by kernel_rfl) 17 [17] (rUnlike_B n1 n2) (fun a => Below wr.heap.size wr a) (fun a => Below wr.heap.size wr a) (fun V => [(some 43, V 0), (some 44, V 1), (some 45, V 2), (some 46, V 3), (some 47, V 4), (some 48, V 5), (some 49, V 6), (some 50, V 7), (some 51, V 8), (some 52, V 9), (some 53, V 10), (some 54, V 11), (some 55, V 12), (some 56, V 13), (some 57, V 14), (some 58, V 15), (some 59, V 16), (some 4, V 17)]) (by kernel_rfl) (by kernel_rfl) (by kernel_rfl) (fun V => rfl) ?_ ?_ ?_
      · exact (Below.refl _ _).drew
      · intro i o ho
        have hi : i < 18 := (Array.getElem?_eq_some_iff.1 ho).1
        rcases i with _ | _ | _ | _ | _ | _ | _ | _ | _ | _ | _ | _ | _ | _ | _ | _ | _ | _ | i
        · obtain rfl := Option.some.inj ho
          intro ρ wi hE hI hs hd
          replace hI : (fun a => Below wr.heap.size wr a) wi := hI
          have e6 : ρ (.tmp 6) = .int .i64 n1 := hs 6 (by kernel_rfl)
          exact Reg.Gives.value (v := .int .i64 n1) (w' := wi) (by go_simp) (Reg.OwedH.same hI rfl)
        · obtain rfl := Option.some.inj ho
          intro ρ wi hE hI hs hd
          replace hI : (fun a => Below wr.heap.size wr a) wi := hI
          obtain ⟨u43, g43, e43⟩ := hd 0 43 (by kernel_rfl) (by kernel_rfl) (by show _ < 60; decide)
          obtain rfl : u43 = .int .i64 n1 := g43
          have hc := hE.const
          have hx := HN1.out
          exact Reg.Gives.value (v := .bool false) (w' := wi) (by go_simp) (Reg.OwedH.same hI rfl)
        · obtain rfl := Option.some.inj ho
          intro ρ wi hE hI hs hd
          replace hI : (fun a => Below wr.heap.size wr a) wi := hI
          obtain ⟨u44, g44, e44⟩ := hd 1 44 (by kernel_rfl) (by kernel_rfl) (by show _ < 60; decide)
          obtain rfl : u44 = .bool false := g44
          exact Reg.Gives.value (v := .bool false) (w' := wi) (by go_simp) (Reg.OwedH.same hI rfl)
        · obtain rfl := Option.some.inj ho
          intro ρ wi hE hI hs hd
          replace hI : (fun a => Below wr.heap.size wr a) wi := hI
          have e8 : ρ (.tmp 8) = .int .i64 n2 := hs 8 (by kernel_rfl)
          intro ug hgg
          obtain rfl : ug = .bool false := hgg
          refine ⟨fun _ => ?_, fun h => absurd rfl h⟩
          exact Reg.Gives.value (v := .int .i64 n2) (w' := wi) (by go_simp) (Reg.OwedH.same hI rfl)
        · obtain rfl := Option.some.inj ho
          intro ρ wi hE hI hs hd
          replace hI : (fun a => Below wr.heap.size wr a) wi := hI
          obtain ⟨u46, g46, e46⟩ := hd 3 46 (by kernel_rfl) (by kernel_rfl) (by show _ < 60; decide)
          obtain rfl : u46 = .int .i64 n2 := g46
          have hc := hE.const
          intro ug hgg
          obtain rfl : ug = .bool false := hgg
          refine ⟨fun _ => ?_, fun h => absurd rfl h⟩
          have hx := HN2.out
          exact Reg.Gives.value (v := .bool true) (w' := wi) (by go_simp) (Reg.OwedH.same hI rfl)
        · obtain rfl := Option.some.inj ho
          intro ρ wi hE hI hs hd
          replace hI : (fun a => Below wr.heap.size wr a) wi := hI
          obtain ⟨u45, g45, e45⟩ := hd 2 45 (by kernel_rfl) (by kernel_rfl) (by show _ < 60; decide)
          obtain rfl : u45 = .bool false := g45
          obtain ⟨u47, g47, e47⟩ := hd 4 47 (by kernel_rfl) (by kernel_rfl) (by show _ < 60; decide)
          obtain rfl : u47 = .bool true := g47
          have hc := hE.const
          exact Reg.Gives.value (v := .bool true) (w' := wi) (by go_simp) (Reg.OwedH.same hI rfl)
        · obtain rfl := Option.some.inj ho
          intro ρ wi hE hI hs hd
          replace hI : (fun a => Below wr.heap.size wr a) wi := hI
          obtain ⟨u48, g48, e48⟩ := hd 5 48 (by kernel_rfl) (by kernel_rfl) (by show _ < 60; decide)
          obtain rfl : u48 = .bool true := g48
          exact Reg.Gives.value (v := .bool true) (w' := wi) (by go_simp) (Reg.OwedH.same hI rfl)
        · obtain rfl := Option.some.inj ho
          intro ρ wi hE hI hs hd
          replace hI : (fun a => Below wr.heap.size wr a) wi := hI
          have e5 : ρ (.tmp 5) = .string (bs m1) := hs 5 (by kernel_rfl)
          intro ug hgg
          obtain rfl : ug = .bool true := hgg
          exact ⟨fun h => (by cases h), fun _ => ⟨rfl, hI⟩⟩
        · obtain rfl := Option.some.inj ho
          intro ρ wi hE hI hs hd
          replace hI : (fun a => Below wr.heap.size wr a) wi := hI
          have e7 : ρ (.tmp 7) = .string (bs m2) := hs 7 (by kernel_rfl)
          intro ug hgg
          obtain rfl : ug = .bool true := hgg
          exact ⟨fun h => (by cases h), fun _ => ⟨rfl, hI⟩⟩
        · obtain rfl := Option.some.inj ho
          intro ρ wi hE hI hs hd
          replace hI : (fun a => Below wr.heap.size wr a) wi := hI
          obtain ⟨u50, g50, e50⟩ := hd 7 50 (by kernel_rfl) (by kernel_rfl) (by show _ < 60; decide)
          obtain rfl : u50 = undef := g50
          obtain ⟨u51, g51, e51⟩ := hd 8 51 (by kernel_rfl) (by kernel_rfl) (by show _ < 60; decide)
          obtain rfl : u51 = undef := g51
          intro ug hgg
          obtain rfl : ug = .bool true := hgg
          exact ⟨fun h => (by cases h), fun _ => ⟨rfl, hI⟩⟩
        · obtain rfl := Option.some.inj ho
          intro ρ wi hE hI hs hd
          replace hI : (fun a => Below wr.heap.size wr a) wi := hI
          have e2 : ρ (.tmp 2) = .pointer (some ⟨w.heap.size, 0, none⟩) := hs 2 (by kernel_rfl)
          intro ug hgg
          obtain rfl : ug = .bool true := hgg
          exact ⟨fun h => (by cases h), fun _ => ⟨rfl, hI⟩⟩
        · obtain rfl := Option.some.inj ho
          intro ρ wi hE hI hs hd
          replace hI : (fun a => Below wr.heap.size wr a) wi := hI
          obtain ⟨u53, g53, e53⟩ := hd 10 53 (by kernel_rfl) (by kernel_rfl) (by show _ < 60; decide)
          obtain rfl : u53 = undef := g53
          have hf := hE.func
          intro ug hgg
          obtain rfl : ug = .bool true := hgg
          exact ⟨fun h => (by cases h), fun _ => ⟨rfl, hI⟩⟩
        · obtain rfl := Option.some.inj ho
          intro ρ wi hE hI hs hd
          replace hI : (fun a => Below wr.heap.size wr a) wi := hI
          have e3 : ρ (.tmp 3) = .pointer (some ⟨w.heap.size + 1, 0, none⟩) := hs 3 (by kernel_rfl)
          intro ug hgg
          obtain rfl : ug = .bool true := hgg
          exact ⟨fun h => (by cases h), fun _ => ⟨rfl, hI⟩⟩
        · obtain rfl := Option.some.inj ho
          intro ρ wi hE hI hs hd
          replace hI : (fun a => Below wr.heap.size wr a) wi := hI
          obtain ⟨u55, g55, e55⟩ := hd 12 55 (by kernel_rfl) (by kernel_rfl) (by show _ < 60; decide)
          obtain rfl : u55 = undef := g55
          have hf := hE.func
          intro ug hgg
          obtain rfl : ug = .bool true := hgg
          exact ⟨fun h => (by cases h), fun _ => ⟨rfl, hI⟩⟩
        · obtain rfl := Option.some.inj ho
          intro ρ wi hE hI hs hd
          replace hI : (fun a => Below wr.heap.size wr a) wi := hI
          obtain ⟨u54, g54, e54⟩ := hd 11 54 (by kernel_rfl) (by kernel_rfl) (by show _ < 60; decide)
          obtain rfl : u54 = undef := g54
          obtain ⟨u56, g56, e56⟩ := hd 13 56 (by kernel_rfl) (by kernel_rfl) (by show _ < 60; decide)
          obtain rfl : u56 = undef := g56
          have hf := hE.func
          intro ug hgg
          obtain rfl : ug = .bool true := hgg
          exact ⟨fun h => (by cases h), fun _ => ⟨rfl, hI⟩⟩
        · obtain rfl := Option.some.inj ho
          intro ρ wi hE hI hs hd
          replace hI : (fun a => Below wr.heap.size wr a) wi := hI
          obtain ⟨u52, g52, e52⟩ := hd 9 52 (by kernel_rfl) (by kernel_rfl) (by show _ < 60; decide)
          obtain rfl : u52 = undef := g52
          obtain ⟨u57, g57, e57⟩ := hd 14 57 (by kernel_rfl) (by kernel_rfl) (by show _ < 60; decide)
          obtain rfl : u57 = undef := g57
          intro ug hgg
          obtain rfl : ug = .bool true := hgg
          exact ⟨fun h => (by cases h), fun _ => ⟨rfl, hI⟩⟩
        · obtain rfl := Option.some.inj ho
          intro ρ wi hE hI hs hd
          replace hI : (fun a => Below wr.heap.size wr a) wi := hI
          obtain ⟨u49, g49, e49⟩ := hd 6 49 (by kernel_rfl) (by kernel_rfl) (by show _ < 60; decide)
          obtain rfl : u49 = .bool true := g49
          obtain ⟨u58, g58, e58⟩ := hd 15 58 (by kernel_rfl) (by kernel_rfl) (by show _ < 60; decide)
          obtain rfl : u58 = undef := g58
          have hc := hE.const
          exact Reg.Gives.value (v := .bool true) (w' := wi) (by go_simp) (Reg.OwedH.same hI rfl)
        · obtain rfl := Option.some.inj ho
          intro ρ wi hE hI hs hd
          replace hI : (fun a => Below wr.heap.size wr a) wi := hI
          obtain ⟨u59, g59, e59⟩ := hd 16 59 (by kernel_rfl) (by kernel_rfl) (by show _ < 60; decide)
          obtain rfl : u59 = .bool true := g59
          exact Reg.Gives.value (v := .bool true) (w' := wi) (by go_simp) (Reg.OwedH.same hI rfl)
        · omega
      · intro V wa hV hI
        have hV17 : V 17 = .bool true := hV 17 (by decide) rfl
        simp only [Reg.putsO, List.foldl_cons, List.foldl_nil, Act.put, List.setIfInBounds_toArray, List.set_cons_succ, List.set_cons_zero, hV17]
        replace hI : (fun a => Below wr.heap.size wr a) wa := hI
        clear hV hV17
        have HW := Lib.hid (HB5.out.trans (hI.mono HB5.out.size))
        clear hI
        go_wp2_with fail
        go_returns
        exact ⟨rfl, HW.out⟩
  · have HN1 : Hid ((n1 != 0) = true) := Lib.hid (by simp [h1])
    clear h1
    go_wp2_with fail
    refine Reg.region_heavy (by kernel_rfl) 17 [17] (rUnlike_A n1) (fun a => Below wr.heap.size wr a) (fun a => Below wr.heap.size wr a) (fun V => [(some 43, V 0), (some 44, V 1), (some 45, V 2), (some 46, V 3), (some 47, V 4), (some 48, V 5), (some 49, V 6), (some 50, V 7), (some 51, V 8), (some 52, V 9), (some 53, V 10), (some 54, V 11), (some 55, V 12), (some 56, V 13), (some 57, V 14), (some 58, V 15), (some 59, V 16), (some 4, V 17)]) (by kernel_rfl) (by kernel_rfl) (by kernel_rfl) (fun V => rfl) ?_ ?_ ?_
    · exact (Below.refl _ _).drew
    · intro i o ho
      have hi : i < 18 := (Array.getElem?_eq_some_iff.1 ho).1
      rcases i with _ | _ | _ | _ | _ | _ | _ | _ | _ | _ | _ | _ | _ | _ | _ | _ | _ | _ | i
      · obtain rfl := Option.some.inj ho
        intro ρ wi hE hI hs hd
        replace hI : (fun a => Below wr.heap.size wr a) wi := hI
        have e6 : ρ (.tmp 6) = .int .i64 n1 := hs 6 (by kernel_rfl)
        exact Reg.Gives.value (v := .int .i64 n1) (w' := wi) (by go_simp) (Reg.OwedH.same hI rfl)
      · obtain rfl := Option.some.inj ho
        intro ρ wi hE hI hs hd
        replace hI : (fun a => Below wr.heap.size wr a) wi := hI
        obtain ⟨u43, g43, e43⟩ := hd 0 43 (by kernel_rfl) (by kernel_rfl) (by show _ < 60; decide)
        obtain rfl : u43 = .int .i64 n1 := g43
        have hc := hE.const
        have hx := HN1.out
        exact Reg.Gives.value (v := .bool true) (w' := wi) (by go_simp) (Reg.OwedH.same hI rfl)
      · obtain rfl := Option.some.inj ho
        intro ρ wi hE hI hs hd
        replace hI : (fun a => Below wr.heap.size wr a) wi := hI
        obtain ⟨u44, g44, e44⟩ := hd 1 44 (by kernel_rfl) (by kernel_rfl) (by show _ < 60; decide)
        obtain rfl : u44 = .bool true := g44
        exact Reg.Gives.value (v := .bool true) (w' := wi) (by go_simp) (Reg.OwedH.same hI rfl)
      · obtain rfl := Option.some.inj ho
        intro ρ wi hE hI hs hd
        replace hI : (fun a => Below wr.heap.size wr a) wi := hI
        have e8 : ρ (.tmp 8) = .int .i64 n2 := hs 8 (by kernel_rfl)
        intro ug hgg
        obtain rfl : ug = .bool true := hgg
        exact ⟨fun h => (by cases h), fun _ => ⟨rfl, hI⟩⟩
      · obtain rfl := Option.some.inj ho
        intro ρ wi hE hI hs hd
        replace hI : (fun a => Below wr.heap.size wr a) wi := hI
        obtain ⟨u46, g46, e46⟩ := hd 3 46 (by kernel_rfl) (by kernel_rfl) (by show _ < 60; decide)
        obtain rfl : u46 = undef := g46
        have hc := hE.const
        intro ug hgg
        obtain rfl : ug = .bool true := hgg
        exact ⟨fun h => (by cases h), fun _ => ⟨rfl, hI⟩⟩
      · obtain rfl := Option.some.inj ho
        intro ρ wi hE hI hs hd
        replace hI : (fun a => Below wr.heap.size wr a) wi := hI
        obtain ⟨u45, g45, e45⟩ := hd 2 45 (by kernel_rfl) (by kernel_rfl) (by show _ < 60; decide)
        obtain rfl : u45 = .bool true := g45
        obtain ⟨u47, g47, e47⟩ := hd 4 47 (by kernel_rfl) (by kernel_rfl) (by show _ < 60; decide)
        obtain rfl : u47 = undef := g47
        have hc := hE.const
        exact Reg.Gives.value (v := .bool true) (w' := wi) (by go_simp) (Reg.OwedH.same hI rfl)
      · obtain rfl := Option.some.inj ho
        intro ρ wi hE hI hs hd
        replace hI : (fun a => Below wr.heap.size wr a) wi := hI
        obtain ⟨u48, g48, e48⟩ := hd 5 48 (by kernel_rfl) (by kernel_rfl) (by show _ < 60; decide)
        obtain rfl : u48 = .bool true := g48
        exact Reg.Gives.value (v := .bool true) (w' := wi) (by go_simp) (Reg.OwedH.same hI rfl)
      · obtain rfl := Option.some.inj ho
        intro ρ wi hE hI hs hd
        replace hI : (fun a => Below wr.heap.size wr a) wi := hI
        have e5 : ρ (.tmp 5) = .string (bs m1) := hs 5 (by kernel_rfl)
        intro ug hgg
        obtain rfl : ug = .bool true := hgg
        exact ⟨fun h => (by cases h), fun _ => ⟨rfl, hI⟩⟩
      · obtain rfl := Option.some.inj ho
        intro ρ wi hE hI hs hd
        replace hI : (fun a => Below wr.heap.size wr a) wi := hI
        have e7 : ρ (.tmp 7) = .string (bs m2) := hs 7 (by kernel_rfl)
        intro ug hgg
        obtain rfl : ug = .bool true := hgg
        exact ⟨fun h => (by cases h), fun _ => ⟨rfl, hI⟩⟩
      · obtain rfl := Option.some.inj ho
        intro ρ wi hE hI hs hd
        replace hI : (fun a => Below wr.heap.size wr a) wi := hI
        obtain ⟨u50, g50, e50⟩ := hd 7 50 (by kernel_rfl) (by kernel_rfl) (by show _ < 60; decide)
        obtain rfl : u50 = undef := g50
        obtain ⟨u51, g51, e51⟩ := hd 8 51 (by kernel_rfl) (by kernel_rfl) (by show _ < 60; decide)
        obtain rfl : u51 = undef := g51
        intro ug hgg
        obtain rfl : ug = .bool true := hgg
        exact ⟨fun h => (by cases h), fun _ => ⟨rfl, hI⟩⟩
      · obtain rfl := Option.some.inj ho
        intro ρ wi hE hI hs hd
        replace hI : (fun a => Below wr.heap.size wr a) wi := hI
        have e2 : ρ (.tmp 2) = .pointer (some ⟨w.heap.size, 0, none⟩) := hs 2 (by kernel_rfl)
        intro ug hgg
        obtain rfl : ug = .bool true := hgg
        exact ⟨fun h => (by cases h), fun _ => ⟨rfl, hI⟩⟩
      · obtain rfl := Option.some.inj ho
        intro ρ wi hE hI hs hd
        replace hI : (fun a => Below wr.heap.size wr a) wi := hI
        obtain ⟨u53, g53, e53⟩ := hd 10 53 (by kernel_rfl) (by kernel_rfl) (by show _ < 60; decide)
        obtain rfl : u53 = undef := g53
        have hf := hE.func
        intro ug hgg
        obtain rfl : ug = .bool true := hgg
        exact ⟨fun h => (by cases h), fun _ => ⟨rfl, hI⟩⟩
      · obtain rfl := Option.some.inj ho
        intro ρ wi hE hI hs hd
        replace hI : (fun a => Below wr.heap.size wr a) wi := hI
        have e3 : ρ (.tmp 3) = .pointer (some ⟨w.heap.size + 1, 0, none⟩) := hs 3 (by kernel_rfl)
        intro ug hgg
        obtain rfl : ug = .bool true := hgg
        exact ⟨fun h => (by cases h), fun _ => ⟨rfl, hI⟩⟩
      · obtain rfl := Option.some.inj ho
        intro ρ wi hE hI hs hd
        replace hI : (fun a => Below wr.heap.size wr a) wi := hI
        obtain ⟨u55, g55, e55⟩ := hd 12 55 (by kernel_rfl) (by kernel_rfl) (by show _ < 60; decide)
        obtain rfl : u55 = undef := g55
        have hf := hE.func
        intro ug hgg
        obtain rfl : ug = .bool true := hgg
        exact ⟨fun h => (by cases h), fun _ => ⟨rfl, hI⟩⟩
      · obtain rfl := Option.some.inj ho
        intro ρ wi hE hI hs hd
        replace hI : (fun a => Below wr.heap.size wr a) wi := hI
        obtain ⟨u54, g54, e54⟩ := hd 11 54 (by kernel_rfl) (by kernel_rfl) (by show _ < 60; decide)
        obtain rfl : u54 = undef := g54
        obtain ⟨u56, g56, e56⟩ := hd 13 56 (by kernel_rfl) (by kernel_rfl) (by show _ < 60; decide)
        obtain rfl : u56 = undef := g56
        have hf := hE.func
        intro ug hgg
        obtain rfl : ug = .bool true := hgg
        exact ⟨fun h => (by cases h), fun _ => ⟨rfl, hI⟩⟩
      · obtain rfl := Option.some.inj ho
        intro ρ wi hE hI hs hd
        replace hI : (fun a => Below wr.heap.size wr a) wi := hI
        obtain ⟨u52, g52, e52⟩ := hd 9 52 (by kernel_rfl) (by kernel_rfl) (by show _ < 60; decide)
        obtain rfl : u52 = undef := g52
        obtain ⟨u57, g57, e57⟩ := hd 14 57 (by kernel_rfl) (by kernel_rfl) (by show _ < 60; decide)
        obtain rfl : u57 = undef := g57
        intro ug hgg
        obtain rfl : ug = .bool true := hgg
        exact ⟨fun h => (by cases h), fun _ => ⟨rfl, hI⟩⟩
      · obtain rfl := Option.some.inj ho
        intro ρ wi hE hI hs hd
        replace hI : (fun a => Below wr.heap.size wr a) wi := hI
        obtain ⟨u49, g49, e49⟩ := hd 6 49 (by kernel_rfl) (by kernel_rfl) (by show _ < 60; decide)
        obtain rfl : u49 = .bool true := g49
        obtain ⟨u58, g58, e58⟩ := hd 15 58 (by kernel_rfl) (by kernel_rfl) (by show _ < 60; decide)
        obtain rfl : u58 = undef := g58
        have hc := hE.const
        exact Reg.Gives.value (v := .bool true) (w' := wi) (by go_simp) (Reg.OwedH.same hI rfl)
      · obtain rfl := Option.some.inj ho
        intro ρ wi hE hI hs hd
        replace hI : (fun a => Below wr.heap.size wr a) wi := hI
        obtain ⟨u59, g59, e59⟩ := hd 16 59 (by kernel_rfl) (by kernel_rfl) (by show _ < 60; decide)
        obtain rfl : u59 = .bool true := g59
        exact Reg.Gives.value (v := .bool true) (w' := wi) (by go_simp) (Reg.OwedH.same hI rfl)
      · omega
    · intro V wa hV hI
      have hV17 : V 17 = .bool true := hV 17 (by decide) rfl
      simp only [Reg.putsO, List.foldl_cons, List.foldl_nil, Act.put, List.setIfInBounds_toArray, List.set_cons_succ, List.set_cons_zero, hV17]
      replace hI : (fun a => Below wr.heap.size wr a) wa := hI
      clear hV hV17
      have HW := Lib.hid (HB5.out.trans (hI.mono HB5.out.size))
      clear hI
      go_wp2_with fail
      go_returns
      exact ⟨rfl, HW.out⟩

theorem opened {H : Type} {enc : TypeId × Value → H} {W : World} {base : Nat} {gs : List (DataW H)} (v0 : Value) (d0 : DataW H) (p0 : List MemPlace) (v1 : Value) (d1 : DataW H) (p1 : List MemPlace)
    (o0 : Value.okWide Try.prog W .any base 35 v0) (t0 : DataW.Trod enc Try.prog W 0 (fun _ => true) true 35 v0 d0 p0)
    (o1 : Value.okWide Try.prog W .any base 35 v1) (t1 : DataW.Trod enc Try.prog W 0 (fun _ => true) true 35 v1 d1 p1)
    (_hsz : (DataW.weightsEach Try.prog ([35, 35] ++ []) ([d0, d1] ++ gs)).all (· ≤ reachBytes) = true) :
    Calls Try.prog 7 #[v0, v1] W fun e W' => e = .returned (.bool true) ∧ Below W.heap.size W W' := by
  obtain ⟨a, ya, rfl, ha, oa, la1, la2⟩ := open_rec o0 t0
  obtain ⟨b, yb, rfl, hb, ob, lb1, lb2⟩ := open_rec o1 t1
  exact walk a b ya yb W ha hb oa ob ⟨la1, la2⟩ ⟨lb1, lb2⟩

theorem contract (H : Type) (enc : TypeId × Value → H) (W : World) (base : Nat) (args : Array Value) (ds gs : List (DataW H)) (before : List MemPlace)
    (hval : ∀ (j : Nat) t v, Try.f7.params[j]? = some t → args[j]? = some v → Value.okWide Try.prog W .any base t v)
    (hW : DataW.Whole enc Try.prog Try.f7.params.toList Rows.recordUnlikeSpec.vars false W args.toList ds gs before)
    (hsz : (DataW.weightsEach Try.prog (Try.f7.params.toList ++ []) (ds ++ gs)).all (· ≤ reachBytes) = true) :
    Calls Try.prog 7 args W fun e W' => ∃ v, e = .returned v ∧ Rows.recordUnlikeSpec.post enc Try.prog Try.f7 false true false false W args v W' := by
  have hW0 := hW
  obtain ⟨p, q, hA0, hV, rfl, _, _⟩ := hW
  have hA : DataW.TrodAll enc Try.prog W 0 (fun _ => true) true Try.f7.params.toList args.toList ds p := hA0
  rw [Try.params7] at hA hval hsz
  obtain ⟨v0, vs0, d0, ds0, p0, q0, hargs, rfl, rfl, h0, r0⟩ := trodAll_cons hA
  obtain ⟨v1, vs1, d1, ds1, p1, q1, rfl, rfl, rfl, h1, r1⟩ := trodAll_cons r0
  obtain ⟨rfl, rfl, rfl⟩ := trodAll_nil r1
  obtain rfl : args = #[v0, v1] := by cases args; simp_all
  refine (opened v0 d0 p0 v1 d1 p1 (hval 0 35 v0 rfl rfl) h0 (hval 1 35 v1 rfl rfl) h1 hsz).mono fun e W' ⟨he, hb⟩ => ⟨_, he, ?_⟩
  exact Base.law_post (tb := 4) Base.laidOut (by kernel_rfl) rfl Try.underlying4 rfl (fun l hl => by
    rw [Try.params7] at hl
    match l, hl with
    | [_, _], _ => rfl) (by rw [Try.params7]; rfl) hW0 hb

theorem laid_met (os : Os) : laidMet Try.prog Rows.recordUnlikeRow.laid ((Base.plainWorld os).forCall (fun _ _ => 0) ⟨#[], #[.agg #[.int .i64 0, .int .i64 0, .int .i64 0, .int .i64 0, .slice none 0 0, .slice none 0 0, .int .i64 0, .int .i64 0, .int .i64 0, .int .i64 0, .int .i64 0, .int .i64 0, .int .i64 0, .int .i64 0, .bool false], .agg #[.int .i64 0, .int .i64 0, .int .i64 0, .int .i64 0, .slice none 0 0, .slice none 0 0, .int .i64 0, .int .i64 0, .int .i64 0, .int .i64 0, .int .i64 0, .int .i64 0, .int .i64 0, .int .i64 0, .bool false]], []⟩).memory := laidMet_nil _ _
theorem reads (os : Os) {H : Type} (enc : TypeId × Value → H) : ∃ places, DataW.whole enc Try.prog ((Base.plainWorld os).forCall (fun _ _ => 0) ⟨#[], #[.agg #[.int .i64 0, .int .i64 0, .int .i64 0, .int .i64 0, .slice none 0 0, .slice none 0 0, .int .i64 0, .int .i64 0, .int .i64 0, .int .i64 0, .int .i64 0, .int .i64 0, .int .i64 0, .int .i64 0, .bool false], .agg #[.int .i64 0, .int .i64 0, .int .i64 0, .int .i64 0, .slice none 0 0, .slice none 0 0, .int .i64 0, .int .i64 0, .int .i64 0, .int .i64 0, .int .i64 0, .int .i64 0, .int .i64 0, .int .i64 0, .bool false]], []⟩).memory Try.f7.params.toList Rows.recordUnlikeSpec.vars false (#[.agg #[.int .i64 0, .int .i64 0, .int .i64 0, .int .i64 0, .slice none 0 0, .slice none 0 0, .int .i64 0, .int .i64 0, .int .i64 0, .int .i64 0, .int .i64 0, .int .i64 0, .int .i64 0, .int .i64 0, .bool false], .agg #[.int .i64 0, .int .i64 0, .int .i64 0, .int .i64 0, .slice none 0 0, .slice none 0 0, .int .i64 0, .int .i64 0, .int .i64 0, .int .i64 0, .int .i64 0, .int .i64 0, .int .i64 0, .int .i64 0, .bool false]] : Array Value).toList 8 = some ([.agg [.lit (.int .i64 0), .agg [.lit (.int .i64 0), .lit (.int .i64 0), .lit (.int .i64 0)], .nil, .nil, .lit (.int .i64 0), .lit (.int .i64 0), .lit (.int .i64 0), .lit (.int .i64 0), .lit (.int .i64 0), .lit (.int .i64 0), .lit (.int .i64 0), .lit (.int .i64 0), .lit (.bool false)], .agg [.lit (.int .i64 0), .agg [.lit (.int .i64 0), .lit (.int .i64 0), .lit (.int .i64 0)], .nil, .nil, .lit (.int .i64 0), .lit (.int .i64 0), .lit (.int .i64 0), .lit (.int .i64 0), .lit (.int .i64 0), .lit (.int .i64 0), .lit (.int .i64 0), .lit (.int .i64 0), .lit (.bool false)]], [], places) :=
  ⟨[], by kernel_rfl⟩

set_option maxRecDepth 100000 in
theorem lifted (os : Os) (started : os.Started) (H : Type) (enc : TypeId × Value → H) (F : Stop.Interp) :
    ReturnsInHanded {} Try.checked os 7 .any ((OpenSpec.ofChange Rows.recordUnlikeSpec).preRow enc Try.prog Try.f7 Rows.recordUnlikeRow.domain false Rows.recordUnlikeRow.laid) (((OpenSpec.ofChange Rows.recordUnlikeSpec).at F).post enc Try.prog Try.f7 false true false false) := by
  obtain ⟨places, hx⟩ := reads os enc
  refine returnsInHanded_of_row (C := Try.checked) (s := OpenSpec.ofChange Rows.recordUnlikeSpec) Base.own started (by kernel_rfl) Try.func7
    (witness_row_at (enc := enc) (C := Try.checked) false (Base.plainWorld os) #[.agg #[.int .i64 0, .int .i64 0, .int .i64 0, .int .i64 0, .slice none 0 0, .slice none 0 0, .int .i64 0, .int .i64 0, .int .i64 0, .int .i64 0, .int .i64 0, .int .i64 0, .int .i64 0, .int .i64 0, .bool false], .agg #[.int .i64 0, .int .i64 0, .int .i64 0, .int .i64 0, .slice none 0 0, .slice none 0 0, .int .i64 0, .int .i64 0, .int .i64 0, .int .i64 0, .int .i64 0, .int .i64 0, .int .i64 0, .int .i64 0, .bool false]] rfl (by kernel_rfl) (by kernel_rfl) (by kernel_rfl)
      (OpenSpec.preRow_of_cond 8 hx (by kernel_rfl) (fun k hk => by cases hk) (by kernel_rfl) (laid_met os))) ?_
  intro W base args ds gs before hval hW _ _ hsz _ _ _
  exact contract H enc W base args ds gs before hval hW hsz

theorem said : Rows.RecordUnlikeSaid :=
  OpenClaim.holds_of_cond 7 Try.f7 rfl rfl rfl rfl rfl rfl rfl ⟨rfl, rfl, rfl, rfl, rfl⟩ rfl rfl rfl rfl rfl (by kernel_rfl) Try.func7 (by kernel_rfl)
    (of_decide_eq_true (by kernel_rfl)) (by unfold Func.isWrapper; rw [if_neg (of_decide_eq_false (by kernel_rfl))]; exact ⟨rfl, rfl⟩)
    (fun os started H enc _ F => by rw [OpenClaim.pre_eq_preRow]; exact lifted os started H enc F)
#print axioms said
end Go.Proofs.Ytllgkbnhlobhkaa.RecordUnlike
