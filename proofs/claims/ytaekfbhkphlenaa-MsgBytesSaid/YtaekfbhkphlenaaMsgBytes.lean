/-
  MsgBytes is proved: any record is right, or not, and has the bytes that the document says, or none, and comes back from them. Conditions: none.
-/
import Derived.Test.YtaekfbhkphlenaaMsgOpen
import Derived.Test.YtaekfbhkphlenaaMsgByt
import Derived.Test.YtaekfbhkphlenaaMsgDec
namespace Go.Proofs.Ytaekfbhkphlenaa.MsgBytes
set_option maxRecDepth 100000
open Go.ChangeShapes Go.WideShapes Go.ChangeAt Go.RowKit Go.Proofs.Ytaekfbhkphlenaa.Mem Go.Proofs.Ytaekfbhkphlenaa.Item Go.Proofs.Ytaekfbhkphlenaa.Msg Go.Proofs.Ytaekfbhkphlenaa.Wire

def mLawB (va vx : Value) (m : List UInt8) : Nat → Value → World → Prop
  | 0, v, _ => v = .int .i64 0
  | 1, v, _ => v = .bool true
  | 2, v, _ => v = .bool true
  | 3, v, _ => v = .string (bs m)
  | 4, v, _ => v = va
  | 5, v, _ => v = va
  | 6, v, _ => v = .string (bs m)
  | 7, v, _ => v = .bool true
  | 8, v, _ => v = .bool true
  | 9, v, _ => v = .bool true
  | 10, v, _ => v = .int .i64 0
  | 11, v, _ => v = .bool true
  | 12, v, _ => v = .bool true
  | 13, v, _ => v = .bool true
  | 14, v, _ => v = vx
  | 15, v, _ => v = vx
  | 16, v, _ => v = va
  | 17, v, _ => v = va
  | 18, v, _ => v = .bool true
  | 19, v, _ => v = .bool true
  | 20, v, _ => v = .bool true
  | _, _, _ => True
theorem mLawB_later {va vx : Value} {m : List UInt8} {j : Nat} {v : Value} {w w' : World} (_hb : Below w.heap.size w w') (h : mLawB va vx m j v w) : mLawB va vx m j v w' := by
  match j, h with
  | 0, h | 1, h | 2, h | 3, h | 4, h | 5, h | 6, h | 7, h | 8, h | 9, h | 10, h | 11, h | 12, h | 13, h | 14, h | 15, h | 16, h | 17, h | 18, h | 19, h | 20, h => exact h
  | _ + 21, _ => exact trivial
theorem dec_enc (r : Rc) (h : right r = true) (ok : r.ok) : dec (bs (bytesR r)) = some r := by
  have hk := right_kind h
  have e : bytesR r = [UInt8.ofNat r.kind.toNat] ++ (bodyB r (fl r.kind) ++ []) := by unfold bytesR; simp
  have l1 : ([UInt8.ofNat r.kind.toNat] : List UInt8).length = 1 := rfl
  have hn : Wire.num (bs (bytesR r)) 1 = r.kind.toNat := by
    rw [e, num_bs _ _ l1]
    show 0 * 256 + (UInt8.ofNat r.kind.toNat).toNat = _
    rw [UInt8.toNat_ofNat']
    omega
  have h0 : dec0 (bs (bytesR r)) = (r, bs [], false) := by
    unfold dec0
    rw [hn, show ((r.kind.toNat : Nat) : Int) = r.kind by omega, e, rest_bs _ _ l1, brk_bs _ _ _ l1, fold_put ok (right_few h), right_copy h]
  unfold dec
  rw [h0, if_pos ⟨rfl, h⟩]
set_option maxHeartbeats 4000000 in
theorem walk (r : Rc) (y : Lay) (w : World) (h : Has w r y) (ok : r.ok) (la : r.items.length ≤ maxLen ∧ r.nodes.length ≤ maxLen) :
    Calls Try.prog 3 #[r.val y] w fun e w' => e = .returned (.bool true) ∧ Below w.heap.size w w' := by
  unfold maxLen at la
  have HEN := Lib.hid (fun w' (hb : Below w.heap.size w w') (h1 : r.items.length ≤ 100) (h2 : r.nodes.length ≤ 100) => encode_any r y w' (h.later hb) h1 h2)
  have HRT := Lib.hid (fun w' (hb : Below w.heap.size w w') (h1 : r.items.length ≤ 100) (h2 : r.nodes.length ≤ 100) => right_any r y w' (h.later hb) (by omega) (by omega))
  have HRF0 := Lib.hid (fun w' (hb : Below w.heap.size w w') (h1 : r.items.length ≤ 100) (h2 : r.nodes.length ≤ 100) => refRight_any r y w' (h.later hb) (by omega) (by omega))
  rw [refRight_eq r ok] at HRF0
  have HPL := Lib.hid (fun w' => plain_any r y w')
  have HGR := Lib.hid (fun w' => great_any r y w')
  have HBY0 := Lib.hid (fun w' (hb : Below w.heap.size w w') (hr : right r = true) (h1 : r.items.length ≤ 100) (h2 : r.nodes.length ≤ 100) => (show Calls Try.prog 13 #[r.val y] w' fun e w'' => e = .returned (.string (bs (bytesR r))) ∧ Below w'.heap.size w' w'' by
    have hq := refBytes_any r y w' (right_kind hr) (h.later hb) h1 h2
    rwa [refBytes_eq r (right_kind hr)] at hq))
  have HSM0 := Lib.hid (fun w' y2 (hb : Below w.heap.size w w') (h2 : Has w' r y2) (h1 : r.items.length ≤ 100) (h3 : r.nodes.length ≤ 100) => same_any r r y2 y w' h2 (h.later hb) (by omega) (by omega))
  have HDE := Lib.hid (fun (hr : right r = true) (hs : (bs (bytesR r)).size ≤ 140737488355328) w' => (show Calls Try.prog 12 #[.string (bs (bytesR r))] w' fun e w'' => (∃ y2, e = .returned (.tuple #[r.val y2, .int .i64 0]) ∧ Has w'' r y2) ∧ Below w'.heap.size w' w'' by
    have hq := decode_any (bs (bytesR r)) w' hs
    have hd := dec_enc r hr ok
    unfold decR decE at hq
    rw [hd] at hq
    exact hq))
  have HLN := Lib.hid (fun (h1 : r.items.length ≤ 100) (h2 : r.nodes.length ≤ 100) => (show (bytesR r).length ≤ 100000 by
    have h3 := body_length r (fl r.kind) h1 h2
    have h4 := fl_len r.kind
    unfold bytesR
    rw [List.length_cons]
    omega))
  have HPX0 := Lib.hid (fun y2 w' => plain_any r y2 w')
  have HE1 := Lib.hid (fun (hr : right r = true) => (show enc r = (bytesR r, 0) by unfold enc; rw [if_pos hr]))
  have HE2 := Lib.hid (fun (hr : right r = false) => (show enc r = ([], 1) by unfold enc; rw [if_neg (by rw [hr]; decide)]))
  clear h ok
  obtain ⟨k, ⟨t1, t2, t3⟩, its, nds, a0, a1, a2, a3, a4, a5, yes⟩ := r
  obtain ⟨A, c, B, d⟩ := y
  obtain ⟨rr, hrr⟩ : ∃ rr : Rc, rr = ⟨k, ⟨t1, t2, t3⟩, its, nds, a0, a1, a2, a3, a4, a5, yes⟩ := ⟨_, rfl⟩
  obtain ⟨L, hLL⟩ : ∃ L, its.length = L := ⟨_, rfl⟩
  obtain ⟨M, hMM⟩ : ∃ M, nds.length = M := ⟨_, rfl⟩
  unfold Rc.val at HGR HEN HRT HRF0 HPL HBY0 HSM0 HDE HPX0 ⊢
  simp only [hLL, hMM, ← hrr] at HGR HEN HRT HRF0 HPL HBY0 HSM0 HDE HPX0 HLN HE1 HE2 la ⊢
  clear hLL hMM hrr
  have HB := Lib.hid (below_alloc w (.cells #[.int .i64 k, .int .i64 t1, .int .i64 t2, .int .i64 t3, .slice A L c, .slice B M d, .int .i64 a0, .int .i64 a1, .int .i64 a2, .int .i64 a3, .int .i64 a4, .int .i64 a5, .bool yes] 27))
  have HC := Lib.hid (cells_new w 27 _ #[.int .i64 k, .int .i64 t1, .int .i64 t2, .int .i64 t3, .slice A L c, .slice B M d, .int .i64 a0, .int .i64 a1, .int .i64 a2, .int .i64 a3, .int .i64 a4, .int .i64 a5, .bool yes] rfl)
  go_enter Try.func3, Try.ntmps3
  go_wp2_with fail
  refine (rawake_any _).mono ?_
  rintro e w1 ⟨rfl, hb1⟩
  have HB1 := Lib.hid (HB.out.trans (hb1.mono HB.out.size))
  have HC1 := Lib.hid (HC.out.later hb1)
  have hcq := HC1.out
  have q0 := hcq.cell (j := 0) rfl
  have q1 := hcq.cell (j := 1) rfl
  have q2 := hcq.cell (j := 2) rfl
  have q3 := hcq.cell (j := 3) rfl
  have q4 := hcq.cell (j := 4) rfl
  have q5 := hcq.cell (j := 5) rfl
  have q6 := hcq.cell (j := 6) rfl
  have q7 := hcq.cell (j := 7) rfl
  have q8 := hcq.cell (j := 8) rfl
  have q9 := hcq.cell (j := 9) rfl
  have q10 := hcq.cell (j := 10) rfl
  have q11 := hcq.cell (j := 11) rfl
  have q12 := hcq.cell (j := 12) rfl
  clear hcq hb1
  go_wp2_with fail
  refine (HGR.out _).mono ?_
  rintro e w2 ⟨rfl, hb2⟩
  have HB2 := Lib.hid (HB1.out.trans (hb2.mono HB1.out.size))
  have HC2 := Lib.hid (HC1.out.later hb2)
  have hcq := HC2.out
  clear hb2 q0 q1 q2 q3 q4 q5 q6 q7 q8 q9 q10 q11 q12
  have q0 := hcq.cell (j := 0) rfl
  have q1 := hcq.cell (j := 1) rfl
  have q2 := hcq.cell (j := 2) rfl
  have q3 := hcq.cell (j := 3) rfl
  have q4 := hcq.cell (j := 4) rfl
  have q5 := hcq.cell (j := 5) rfl
  have q6 := hcq.cell (j := 6) rfl
  have q7 := hcq.cell (j := 7) rfl
  have q8 := hcq.cell (j := 8) rfl
  have q9 := hcq.cell (j := 9) rfl
  have q10 := hcq.cell (j := 10) rfl
  have q11 := hcq.cell (j := 11) rfl
  have q12 := hcq.cell (j := 12) rfl
  clear hcq
  obtain ⟨gt, hgt⟩ : ∃ gt, (decide (60 < L) || decide (60 < M)) = gt := ⟨_, rfl⟩
  rw [hgt]
  have HGT := Lib.hid hgt
  clear hgt
  cases gt
  case true =>
    go_wp2_with fail
    go_returns
    exact ⟨rfl, HB2.out⟩
  have HG : Hid (L ≤ 100 ∧ M ≤ 100) := Lib.hid (by have h := HGT.out; simp at h; omega)
  go_wp2_with fail
  refine (HPL.out _).mono ?_
  rintro e w3 ⟨rfl, hb3⟩
  have HB3 := Lib.hid (HB2.out.trans (hb3.mono HB2.out.size))
  have HC3 := Lib.hid (HC2.out.later hb3)
  clear hb3 q0 q1 q2 q3 q4 q5 q6 q7 q8 q9 q10 q11 q12
  go_wp2_with fail
  refine (HRF0.out _ HB3.out HG.out.1 HG.out.2).mono ?_
  rintro e w4 ⟨rfl, hb4⟩
  have HB4 := Lib.hid (HB3.out.trans (hb4.mono HB3.out.size))
  have HC4 := Lib.hid (HC3.out.later hb4)
  have hcq := HC4.out
  have q0 := hcq.cell (j := 0) rfl
  have q1 := hcq.cell (j := 1) rfl
  have q2 := hcq.cell (j := 2) rfl
  have q3 := hcq.cell (j := 3) rfl
  have q4 := hcq.cell (j := 4) rfl
  have q5 := hcq.cell (j := 5) rfl
  have q6 := hcq.cell (j := 6) rfl
  have q7 := hcq.cell (j := 7) rfl
  have q8 := hcq.cell (j := 8) rfl
  have q9 := hcq.cell (j := 9) rfl
  have q10 := hcq.cell (j := 10) rfl
  have q11 := hcq.cell (j := 11) rfl
  have q12 := hcq.cell (j := 12) rfl
  clear hcq hb4
  go_wp2_with fail
  refine (HEN.out _ HB4.out HG.out.1 HG.out.2).mono ?_
  rintro e w5 ⟨rfl, hb5⟩
  have HB5 := Lib.hid (HB4.out.trans (hb5.mono HB4.out.size))
  have HC5 := Lib.hid (HC4.out.later hb5)
  clear hb5 q0 q1 q2 q3 q4 q5 q6 q7 q8 q9 q10 q11 q12
  have hcq := HC5.out
  have q0 := hcq.cell (j := 0) rfl
  have q1 := hcq.cell (j := 1) rfl
  have q2 := hcq.cell (j := 2) rfl
  have q3 := hcq.cell (j := 3) rfl
  have q4 := hcq.cell (j := 4) rfl
  have q5 := hcq.cell (j := 5) rfl
  have q6 := hcq.cell (j := 6) rfl
  have q7 := hcq.cell (j := 7) rfl
  have q8 := hcq.cell (j := 8) rfl
  have q9 := hcq.cell (j := 9) rfl
  have q10 := hcq.cell (j := 10) rfl
  have q11 := hcq.cell (j := 11) rfl
  have q12 := hcq.cell (j := 12) rfl
  clear hcq
  go_wp2_with fail
  refine (HRT.out _ HB5.out HG.out.1 HG.out.2).mono ?_
  rintro e w6 ⟨rfl, hb6⟩
  have HB6 := Lib.hid (HB5.out.trans (hb6.mono HB5.out.size))
  have HC6 := Lib.hid (HC5.out.later hb6)
  clear hb6 q0 q1 q2 q3 q4 q5 q6 q7 q8 q9 q10 q11 q12
  by_cases hr : right rr = true
  · have HE := Lib.hid (HE1.out hr)
    have HDD := Lib.hid (HDE.out hr)
    have HBB := Lib.hid (fun w' hb => HBY0.out w' hb hr HG.out.1 HG.out.2)
    have HLL := Lib.hid (HLN.out HG.out.1 HG.out.2)
    rw [hr, HE.out]
    simp only
    obtain ⟨m, hm⟩ : ∃ m, bytesR rr = m := ⟨_, rfl⟩
    rw [hm] at HDD HBB HLL
    simp only [hm]
    clear hm hr
    go_wp2_with fail
    refine (HDD.out (by rw [bs_size]; have := HLL.out; omega) _).mono ?_
    rintro e w7 ⟨⟨y2, rfl, hh7⟩, hb7⟩
    obtain ⟨A2, c2, B2, d2⟩ := y2
    have HB7 := Lib.hid (HB6.out.trans (hb7.mono HB6.out.size))
    have HH7 := Lib.hid hh7
    have HC7 := Lib.hid (HC6.out.later hb7)
    have hb8 := below_alloc w7 (.cells #[.int .i64 k, .int .i64 t1, .int .i64 t2, .int .i64 t3, .slice A2 L c2, .slice B2 M d2, .int .i64 a0, .int .i64 a1, .int .i64 a2, .int .i64 a3, .int .i64 a4, .int .i64 a5, .bool yes] 27)
    obtain ⟨wr, hwr⟩ : ∃ wr, wr = w7.alloc (.cells #[.int .i64 k, .int .i64 t1, .int .i64 t2, .int .i64 t3, .slice A2 L c2, .slice B2 M d2, .int .i64 a0, .int .i64 a1, .int .i64 a2, .int .i64 a3, .int .i64 a4, .int .i64 a5, .bool yes] 27) := ⟨_, rfl⟩
    have HX8 : Hid (Cells wr w7.heap.size 27 _) := Lib.hid (by rw [hwr]; exact cells_new w7 27 _ #[.int .i64 k, .int .i64 t1, .int .i64 t2, .int .i64 t3, .slice A2 L c2, .slice B2 M d2, .int .i64 a0, .int .i64 a1, .int .i64 a2, .int .i64 a3, .int .i64 a4, .int .i64 a5, .bool yes] rfl)
    rw [← hwr] at hb8
    have HB8 := Lib.hid (HB7.out.trans (hb8.mono HB7.out.size))
    have HQ3 : Hid (∀ wi, Below wr.heap.size wr wi → Cells wi w.heap.size 27 _) := Lib.hid (fun wi hi => (HC7.out.later hb8).later hi)
    have HQ7 : Hid (∀ wi, Below wr.heap.size wr wi → Cells wi w7.heap.size 27 _) := Lib.hid (fun wi hi => HX8.out.later hi)
    have HBY := Lib.hid (fun w' (hb : Below wr.heap.size wr w') => HBB.out w' (HB8.out.trans (hb.mono HB8.out.size)))
    have HSM := Lib.hid (fun w' (hb : Below wr.heap.size wr w') => HSM0.out w' ⟨A2, c2, B2, d2⟩ (HB8.out.trans (hb.mono HB8.out.size)) ((HH7.out.later hb8).later hb) HG.out.1 HG.out.2)
    have HPX := Lib.hid (fun w' => HPX0.out ⟨A2, c2, B2, d2⟩ w')
    clear hb7 hb8 hh7
    go_wp2_with fail
    rw [← hwr]
    clear hwr
    obtain ⟨n7, hn7⟩ : ∃ n7, w7.heap.size = n7 := ⟨_, rfl⟩
    rw [hn7] at HQ7 ⊢
    clear hn7
    refine Reg.region_heavy (by kernel_rfl) 20 [20] (mLawB (.agg #[.int .i64 k, .int .i64 t1, .int .i64 t2, .int .i64 t3, .slice A L c, .slice B M d, .int .i64 a0, .int .i64 a1, .int .i64 a2, .int .i64 a3, .int .i64 a4, .int .i64 a5, .bool yes]) (.agg #[.int .i64 k, .int .i64 t1, .int .i64 t2, .int .i64 t3, .slice A2 L c2, .slice B2 M d2, .int .i64 a0, .int .i64 a1, .int .i64 a2, .int .i64 a3, .int .i64 a4, .int .i64 a5, .bool yes]) m) (fun a => Below wr.heap.size wr a) (fun a => Below wr.heap.size wr a) (fun V => [(some 37, V 0), (some 38, V 1), (some 39, V 2), (some 40, V 3), (some 41, V 4), (some 42, V 5), (some 43, V 6), (some 44, V 7), (some 45, V 8), (some 46, V 9), (some 47, V 10), (some 48, V 11), (some 49, V 12), (some 50, V 13), (some 51, V 14), (some 52, V 15), (some 53, V 16), (some 54, V 17), (some 55, V 18), (some 56, V 19), (some 2, V 20)]) (by kernel_rfl) (by kernel_rfl) (by kernel_rfl) (fun V => rfl) ?_ ?_ ?_
    · exact (Below.refl _ _).drew
    · intro i o ho
      have hi : i < 21 := (Array.getElem?_eq_some_iff.1 ho).1
      rcases i with _ | _ | _ | _ | _ | _ | _ | _ | _ | _ | _ | _ | _ | _ | _ | _ | _ | _ | _ | _ | _ | i
      · obtain rfl := Option.some.inj ho
        intro ρ wi hE hI hs hd
        try dsimp only at hI
        have e5 : ρ (.tmp 5) = .int .i64 0 := hs 5 (by kernel_rfl)
        exact Reg.Gives.value (v := .int .i64 0) (w' := wi) (by go_simp) (Reg.OwedH.same hI rfl)
      · obtain rfl := Option.some.inj ho
        intro ρ wi hE hI hs hd
        try dsimp only at hI
        obtain ⟨u37, g37, e37⟩ := hd 0 37 (by kernel_rfl) (by kernel_rfl) (by show _ < 57; decide)
        obtain rfl : u37 = .int .i64 0 := g37
        have hc := hE.const
        exact Reg.Gives.value (v := .bool true) (w' := wi) (by go_simp) (Reg.OwedH.same hI rfl)
      · obtain rfl := Option.some.inj ho
        intro ρ wi hE hI hs hd
        try dsimp only at hI
        obtain ⟨u38, g38, e38⟩ := hd 1 38 (by kernel_rfl) (by kernel_rfl) (by show _ < 57; decide)
        obtain rfl : u38 = .bool true := g38
        exact Reg.Gives.value (v := .bool true) (w' := wi) (by go_simp) (Reg.OwedH.same hI rfl)
      · obtain rfl := Option.some.inj ho
        intro ρ wi hE hI hs hd
        try dsimp only at hI
        have e4 : ρ (.tmp 4) = .string (bs m) := hs 4 (by kernel_rfl)
        intro ug hgg
        obtain rfl : ug = .bool true := hgg
        refine ⟨fun _ => ?_, fun h => absurd rfl h⟩
        exact Reg.Gives.value (v := .string (bs m)) (w' := wi) (by go_simp) (Reg.OwedH.same hI rfl)
      · obtain rfl := Option.some.inj ho
        intro ρ wi hE hI hs hd
        try dsimp only at hI
        have e1 : ρ (.tmp 1) = .pointer (some ⟨w.heap.size, 0, none⟩) := hs 1 (by kernel_rfl)
        intro ug hgg
        obtain rfl : ug = .bool true := hgg
        refine ⟨fun _ => ?_, fun h => absurd rfl h⟩
        have hcq := HQ3.out wi hI
        have q0 := hcq.cell (j := 0) rfl
        have q1 := hcq.cell (j := 1) rfl
        have q2 := hcq.cell (j := 2) rfl
        have q3 := hcq.cell (j := 3) rfl
        have q4 := hcq.cell (j := 4) rfl
        have q5 := hcq.cell (j := 5) rfl
        have q6 := hcq.cell (j := 6) rfl
        have q7 := hcq.cell (j := 7) rfl
        have q8 := hcq.cell (j := 8) rfl
        have q9 := hcq.cell (j := 9) rfl
        have q10 := hcq.cell (j := 10) rfl
        have q11 := hcq.cell (j := 11) rfl
        have q12 := hcq.cell (j := 12) rfl
        exact Reg.Gives.value (v := (.agg #[.int .i64 k, .int .i64 t1, .int .i64 t2, .int .i64 t3, .slice A L c, .slice B M d, .int .i64 a0, .int .i64 a1, .int .i64 a2, .int .i64 a3, .int .i64 a4, .int .i64 a5, .bool yes])) (w' := wi) (by go_simp) (Reg.OwedH.same hI rfl)
      · obtain rfl := Option.some.inj ho
        intro ρ wi hE hI hs hd
        try dsimp only at hI
        obtain ⟨u41, g41, e41⟩ := hd 4 41 (by kernel_rfl) (by kernel_rfl) (by show _ < 57; decide)
        obtain rfl : u41 = (.agg #[.int .i64 k, .int .i64 t1, .int .i64 t2, .int .i64 t3, .slice A L c, .slice B M d, .int .i64 a0, .int .i64 a1, .int .i64 a2, .int .i64 a3, .int .i64 a4, .int .i64 a5, .bool yes]) := g41
        have hf := hE.func
        intro ug hgg
        obtain rfl : ug = .bool true := hgg
        refine ⟨fun _ => ?_, fun h => absurd rfl h⟩
        refine Reg.Gives.call (f := 9) (args := #[.agg #[.int .i64 k, .int .i64 t1, .int .i64 t2, .int .i64 t3, .slice A L c, .slice B M d, .int .i64 a0, .int .i64 a1, .int .i64 a2, .int .i64 a3, .int .i64 a4, .int .i64 a5, .bool yes]]) (w' := wi) (by go_simp) ?_
        refine (HPL.out wi).mono ?_
        rintro e w'' ⟨rfl, hbb⟩
        exact ⟨_, rfl, ⟨rfl, hI.trans (hbb.mono hI.size), fun j u _ _ h => mLawB_later hbb h⟩⟩
      · obtain rfl := Option.some.inj ho
        intro ρ wi hE hI hs hd
        try dsimp only at hI
        obtain ⟨u42, g42, e42⟩ := hd 5 42 (by kernel_rfl) (by kernel_rfl) (by show _ < 57; decide)
        obtain rfl : u42 = (.agg #[.int .i64 k, .int .i64 t1, .int .i64 t2, .int .i64 t3, .slice A L c, .slice B M d, .int .i64 a0, .int .i64 a1, .int .i64 a2, .int .i64 a3, .int .i64 a4, .int .i64 a5, .bool yes]) := g42
        have hf := hE.func
        intro ug hgg
        obtain rfl : ug = .bool true := hgg
        refine ⟨fun _ => ?_, fun h => absurd rfl h⟩
        refine Reg.Gives.call (f := 13) (args := #[.agg #[.int .i64 k, .int .i64 t1, .int .i64 t2, .int .i64 t3, .slice A L c, .slice B M d, .int .i64 a0, .int .i64 a1, .int .i64 a2, .int .i64 a3, .int .i64 a4, .int .i64 a5, .bool yes]]) (w' := wi) (by go_simp) ?_
        refine (HBY.out wi hI).mono ?_
        rintro e w'' ⟨rfl, hbb⟩
        exact ⟨_, rfl, ⟨rfl, hI.trans (hbb.mono hI.size), fun j u _ _ h => mLawB_later hbb h⟩⟩
      · obtain rfl := Option.some.inj ho
        intro ρ wi hE hI hs hd
        try dsimp only at hI
        obtain ⟨u40, g40, e40⟩ := hd 3 40 (by kernel_rfl) (by kernel_rfl) (by show _ < 57; decide)
        obtain rfl : u40 = .string (bs m) := g40
        obtain ⟨u43, g43, e43⟩ := hd 6 43 (by kernel_rfl) (by kernel_rfl) (by show _ < 57; decide)
        obtain rfl : u43 = .string (bs m) := g43
        intro ug hgg
        obtain rfl : ug = .bool true := hgg
        refine ⟨fun _ => ?_, fun h => absurd rfl h⟩
        exact Reg.Gives.value (v := .bool true) (w' := wi) (by go_simp) (Reg.OwedH.same hI rfl)
      · obtain rfl := Option.some.inj ho
        intro ρ wi hE hI hs hd
        try dsimp only at hI
        obtain ⟨u39, g39, e39⟩ := hd 2 39 (by kernel_rfl) (by kernel_rfl) (by show _ < 57; decide)
        obtain rfl : u39 = .bool true := g39
        obtain ⟨u44, g44, e44⟩ := hd 7 44 (by kernel_rfl) (by kernel_rfl) (by show _ < 57; decide)
        obtain rfl : u44 = .bool true := g44
        have hc := hE.const
        exact Reg.Gives.value (v := .bool true) (w' := wi) (by go_simp) (Reg.OwedH.same hI rfl)
      · obtain rfl := Option.some.inj ho
        intro ρ wi hE hI hs hd
        try dsimp only at hI
        obtain ⟨u45, g45, e45⟩ := hd 8 45 (by kernel_rfl) (by kernel_rfl) (by show _ < 57; decide)
        obtain rfl : u45 = .bool true := g45
        exact Reg.Gives.value (v := .bool true) (w' := wi) (by go_simp) (Reg.OwedH.same hI rfl)
      · obtain rfl := Option.some.inj ho
        intro ρ wi hE hI hs hd
        try dsimp only at hI
        have e7 : ρ (.tmp 7) = .int .i64 0 := hs 7 (by kernel_rfl)
        intro ug hgg
        obtain rfl : ug = .bool true := hgg
        refine ⟨fun _ => ?_, fun h => absurd rfl h⟩
        exact Reg.Gives.value (v := .int .i64 0) (w' := wi) (by go_simp) (Reg.OwedH.same hI rfl)
      · obtain rfl := Option.some.inj ho
        intro ρ wi hE hI hs hd
        try dsimp only at hI
        obtain ⟨u47, g47, e47⟩ := hd 10 47 (by kernel_rfl) (by kernel_rfl) (by show _ < 57; decide)
        obtain rfl : u47 = .int .i64 0 := g47
        have hc := hE.const
        intro ug hgg
        obtain rfl : ug = .bool true := hgg
        refine ⟨fun _ => ?_, fun h => absurd rfl h⟩
        exact Reg.Gives.value (v := .bool true) (w' := wi) (by go_simp) (Reg.OwedH.same hI rfl)
      · obtain rfl := Option.some.inj ho
        intro ρ wi hE hI hs hd
        try dsimp only at hI
        obtain ⟨u46, g46, e46⟩ := hd 9 46 (by kernel_rfl) (by kernel_rfl) (by show _ < 57; decide)
        obtain rfl : u46 = .bool true := g46
        obtain ⟨u48, g48, e48⟩ := hd 11 48 (by kernel_rfl) (by kernel_rfl) (by show _ < 57; decide)
        obtain rfl : u48 = .bool true := g48
        have hc := hE.const
        exact Reg.Gives.value (v := .bool true) (w' := wi) (by go_simp) (Reg.OwedH.same hI rfl)
      · obtain rfl := Option.some.inj ho
        intro ρ wi hE hI hs hd
        try dsimp only at hI
        obtain ⟨u49, g49, e49⟩ := hd 12 49 (by kernel_rfl) (by kernel_rfl) (by show _ < 57; decide)
        obtain rfl : u49 = .bool true := g49
        exact Reg.Gives.value (v := .bool true) (w' := wi) (by go_simp) (Reg.OwedH.same hI rfl)
      · obtain rfl := Option.some.inj ho
        intro ρ wi hE hI hs hd
        try dsimp only at hI
        have e6 : ρ (.tmp 6) = .pointer (some ⟨n7, 0, none⟩) := hs 6 (by kernel_rfl)
        intro ug hgg
        obtain rfl : ug = .bool true := hgg
        refine ⟨fun _ => ?_, fun h => absurd rfl h⟩
        have hcq := HQ7.out wi hI
        have q0 := hcq.cell (j := 0) rfl
        have q1 := hcq.cell (j := 1) rfl
        have q2 := hcq.cell (j := 2) rfl
        have q3 := hcq.cell (j := 3) rfl
        have q4 := hcq.cell (j := 4) rfl
        have q5 := hcq.cell (j := 5) rfl
        have q6 := hcq.cell (j := 6) rfl
        have q7 := hcq.cell (j := 7) rfl
        have q8 := hcq.cell (j := 8) rfl
        have q9 := hcq.cell (j := 9) rfl
        have q10 := hcq.cell (j := 10) rfl
        have q11 := hcq.cell (j := 11) rfl
        have q12 := hcq.cell (j := 12) rfl
        exact Reg.Gives.value (v := (.agg #[.int .i64 k, .int .i64 t1, .int .i64 t2, .int .i64 t3, .slice A2 L c2, .slice B2 M d2, .int .i64 a0, .int .i64 a1, .int .i64 a2, .int .i64 a3, .int .i64 a4, .int .i64 a5, .bool yes])) (w' := wi) (by go_simp) (Reg.OwedH.same hI rfl)
      · obtain rfl := Option.some.inj ho
        intro ρ wi hE hI hs hd
        try dsimp only at hI
        obtain ⟨u51, g51, e51⟩ := hd 14 51 (by kernel_rfl) (by kernel_rfl) (by show _ < 57; decide)
        obtain rfl : u51 = (.agg #[.int .i64 k, .int .i64 t1, .int .i64 t2, .int .i64 t3, .slice A2 L c2, .slice B2 M d2, .int .i64 a0, .int .i64 a1, .int .i64 a2, .int .i64 a3, .int .i64 a4, .int .i64 a5, .bool yes]) := g51
        have hf := hE.func
        intro ug hgg
        obtain rfl : ug = .bool true := hgg
        refine ⟨fun _ => ?_, fun h => absurd rfl h⟩
        refine Reg.Gives.call (f := 9) (args := #[.agg #[.int .i64 k, .int .i64 t1, .int .i64 t2, .int .i64 t3, .slice A2 L c2, .slice B2 M d2, .int .i64 a0, .int .i64 a1, .int .i64 a2, .int .i64 a3, .int .i64 a4, .int .i64 a5, .bool yes]]) (w' := wi) (by go_simp) ?_
        refine (HPX.out wi).mono ?_
        rintro e w'' ⟨rfl, hbb⟩
        exact ⟨_, rfl, ⟨rfl, hI.trans (hbb.mono hI.size), fun j u _ _ h => mLawB_later hbb h⟩⟩
      · obtain rfl := Option.some.inj ho
        intro ρ wi hE hI hs hd
        try dsimp only at hI
        have e1 : ρ (.tmp 1) = .pointer (some ⟨w.heap.size, 0, none⟩) := hs 1 (by kernel_rfl)
        intro ug hgg
        obtain rfl : ug = .bool true := hgg
        refine ⟨fun _ => ?_, fun h => absurd rfl h⟩
        have hcq := HQ3.out wi hI
        have q0 := hcq.cell (j := 0) rfl
        have q1 := hcq.cell (j := 1) rfl
        have q2 := hcq.cell (j := 2) rfl
        have q3 := hcq.cell (j := 3) rfl
        have q4 := hcq.cell (j := 4) rfl
        have q5 := hcq.cell (j := 5) rfl
        have q6 := hcq.cell (j := 6) rfl
        have q7 := hcq.cell (j := 7) rfl
        have q8 := hcq.cell (j := 8) rfl
        have q9 := hcq.cell (j := 9) rfl
        have q10 := hcq.cell (j := 10) rfl
        have q11 := hcq.cell (j := 11) rfl
        have q12 := hcq.cell (j := 12) rfl
        exact Reg.Gives.value (v := (.agg #[.int .i64 k, .int .i64 t1, .int .i64 t2, .int .i64 t3, .slice A L c, .slice B M d, .int .i64 a0, .int .i64 a1, .int .i64 a2, .int .i64 a3, .int .i64 a4, .int .i64 a5, .bool yes])) (w' := wi) (by go_simp) (Reg.OwedH.same hI rfl)
      · obtain rfl := Option.some.inj ho
        intro ρ wi hE hI hs hd
        try dsimp only at hI
        obtain ⟨u53, g53, e53⟩ := hd 16 53 (by kernel_rfl) (by kernel_rfl) (by show _ < 57; decide)
        obtain rfl : u53 = (.agg #[.int .i64 k, .int .i64 t1, .int .i64 t2, .int .i64 t3, .slice A L c, .slice B M d, .int .i64 a0, .int .i64 a1, .int .i64 a2, .int .i64 a3, .int .i64 a4, .int .i64 a5, .bool yes]) := g53
        have hf := hE.func
        intro ug hgg
        obtain rfl : ug = .bool true := hgg
        refine ⟨fun _ => ?_, fun h => absurd rfl h⟩
        refine Reg.Gives.call (f := 9) (args := #[.agg #[.int .i64 k, .int .i64 t1, .int .i64 t2, .int .i64 t3, .slice A L c, .slice B M d, .int .i64 a0, .int .i64 a1, .int .i64 a2, .int .i64 a3, .int .i64 a4, .int .i64 a5, .bool yes]]) (w' := wi) (by go_simp) ?_
        refine (HPL.out wi).mono ?_
        rintro e w'' ⟨rfl, hbb⟩
        exact ⟨_, rfl, ⟨rfl, hI.trans (hbb.mono hI.size), fun j u _ _ h => mLawB_later hbb h⟩⟩
      · obtain rfl := Option.some.inj ho
        intro ρ wi hE hI hs hd
        try dsimp only at hI
        obtain ⟨u52, g52, e52⟩ := hd 15 52 (by kernel_rfl) (by kernel_rfl) (by show _ < 57; decide)
        obtain rfl : u52 = (.agg #[.int .i64 k, .int .i64 t1, .int .i64 t2, .int .i64 t3, .slice A2 L c2, .slice B2 M d2, .int .i64 a0, .int .i64 a1, .int .i64 a2, .int .i64 a3, .int .i64 a4, .int .i64 a5, .bool yes]) := g52
        obtain ⟨u54, g54, e54⟩ := hd 17 54 (by kernel_rfl) (by kernel_rfl) (by show _ < 57; decide)
        obtain rfl : u54 = (.agg #[.int .i64 k, .int .i64 t1, .int .i64 t2, .int .i64 t3, .slice A L c, .slice B M d, .int .i64 a0, .int .i64 a1, .int .i64 a2, .int .i64 a3, .int .i64 a4, .int .i64 a5, .bool yes]) := g54
        have hf := hE.func
        intro ug hgg
        obtain rfl : ug = .bool true := hgg
        refine ⟨fun _ => ?_, fun h => absurd rfl h⟩
        refine Reg.Gives.call (f := 14) (args := #[.agg #[.int .i64 k, .int .i64 t1, .int .i64 t2, .int .i64 t3, .slice A2 L c2, .slice B2 M d2, .int .i64 a0, .int .i64 a1, .int .i64 a2, .int .i64 a3, .int .i64 a4, .int .i64 a5, .bool yes], .agg #[.int .i64 k, .int .i64 t1, .int .i64 t2, .int .i64 t3, .slice A L c, .slice B M d, .int .i64 a0, .int .i64 a1, .int .i64 a2, .int .i64 a3, .int .i64 a4, .int .i64 a5, .bool yes]]) (w' := wi) (by go_simp) ?_
        refine (HSM.out wi hI).mono ?_
        rintro e w'' ⟨⟨v', rfl, hv'⟩, hbb⟩
        obtain rfl : v' = true := hv'.2 (by trivial)
        exact ⟨_, rfl, ⟨rfl, hI.trans (hbb.mono hI.size), fun j u _ _ h => mLawB_later hbb h⟩⟩
      · obtain rfl := Option.some.inj ho
        intro ρ wi hE hI hs hd
        try dsimp only at hI
        obtain ⟨u50, g50, e50⟩ := hd 13 50 (by kernel_rfl) (by kernel_rfl) (by show _ < 57; decide)
        obtain rfl : u50 = .bool true := g50
        obtain ⟨u55, g55, e55⟩ := hd 18 55 (by kernel_rfl) (by kernel_rfl) (by show _ < 57; decide)
        obtain rfl : u55 = .bool true := g55
        have hc := hE.const
        exact Reg.Gives.value (v := .bool true) (w' := wi) (by go_simp) (Reg.OwedH.same hI rfl)
      · obtain rfl := Option.some.inj ho
        intro ρ wi hE hI hs hd
        try dsimp only at hI
        obtain ⟨u56, g56, e56⟩ := hd 19 56 (by kernel_rfl) (by kernel_rfl) (by show _ < 57; decide)
        obtain rfl : u56 = .bool true := g56
        exact Reg.Gives.value (v := .bool true) (w' := wi) (by go_simp) (Reg.OwedH.same hI rfl)
      · omega
    · intro V wa hV hI
      have hV20 : V 20 = .bool true := hV 20 (by decide) rfl
      simp only [Reg.putsO, List.foldl_cons, List.foldl_nil, Act.put, List.setIfInBounds_toArray, List.set_cons_succ, List.set_cons_zero, hV20]
      replace hI : (fun a => Below wr.heap.size wr a) wa := hI
      clear hV hV20
      have HW := Lib.hid (HB8.out.trans (hI.mono HB8.out.size))
      clear hI
      go_wp2_with fail
      go_returns
      exact ⟨rfl, HW.out⟩
  · have hr' : right rr = false := by simpa using hr
    have HE := Lib.hid (HE2.out hr')
    rw [hr', HE.out]
    simp only [bs]
    clear hr hr'
    go_wp2_with fail
    go_returns
    exact ⟨rfl, HB6.out⟩

theorem opened {H : Type} {enc : TypeId × Value → H} {W : World} {base : Nat} {gs : List (DataW H)} (v0 : Value) (d0 : DataW H) (p0 : List MemPlace)
    (o0 : Value.okWide Try.prog W .any base 27 v0) (t0 : DataW.Trod enc Try.prog W 0 (fun _ => true) true 27 v0 d0 p0)
    (_hsz : (DataW.weightsEach Try.prog ([27] ++ []) ([d0] ++ gs)).all (· ≤ reachBytes) = true) :
    Calls Try.prog 3 #[v0] W fun e W' => e = .returned (.bool true) ∧ Below W.heap.size W W' := by
  obtain ⟨a, ya, rfl, ha, oa, la1, la2⟩ := open_rec o0 t0
  exact walk a ya W ha oa ⟨la1, la2⟩

theorem contract (H : Type) (enc : TypeId × Value → H) (W : World) (base : Nat) (args : Array Value) (ds gs : List (DataW H)) (before : List MemPlace)
    (hval : ∀ (j : Nat) t v, Try.f3.params[j]? = some t → args[j]? = some v → Value.okWide Try.prog W .any base t v)
    (hW : DataW.Whole enc Try.prog Try.f3.params.toList Rows.msgBytesSpec.vars false W args.toList ds gs before)
    (hsz : (DataW.weightsEach Try.prog (Try.f3.params.toList ++ []) (ds ++ gs)).all (· ≤ reachBytes) = true) :
    Calls Try.prog 3 args W fun e W' => ∃ v, e = .returned v ∧ Rows.msgBytesSpec.post enc Try.prog Try.f3 false true false false W args v W' := by
  have hW0 := hW
  obtain ⟨p, q, hA0, hV, rfl, _, _⟩ := hW
  have hA : DataW.TrodAll enc Try.prog W 0 (fun _ => true) true Try.f3.params.toList args.toList ds p := hA0
  rw [Try.params3] at hA hval hsz
  obtain ⟨v0, vs0, d0, ds0, p0, q0, hargs, rfl, rfl, h0, r0⟩ := trodAll_cons hA
  obtain ⟨rfl, rfl, rfl⟩ := trodAll_nil r0
  obtain rfl : args = #[v0] := by cases args; simp_all
  refine (opened v0 d0 p0 (hval 0 27 v0 rfl rfl) h0 hsz).mono fun e W' ⟨he, hb⟩ => ⟨_, he, ?_⟩
  exact Base.law_post (tb := 4) Base.laidOut (by kernel_rfl) rfl Try.underlying4 rfl (fun l hl => by
    rw [Try.params3] at hl
    match l, hl with
    | [_], _ => rfl) (by rw [Try.params3]; rfl) hW0 hb

theorem laid_met (os : Os) : laidMet Try.prog Rows.msgBytesRow.laid ((Base.plainWorld os).forCall (fun _ _ => 0) ⟨#[], #[.agg #[.int .i64 0, .int .i64 0, .int .i64 0, .int .i64 0, .slice none 0 0, .slice none 0 0, .int .i64 0, .int .i64 0, .int .i64 0, .int .i64 0, .int .i64 0, .int .i64 0, .bool false]], []⟩).memory := laidMet_nil _ _
theorem reads (os : Os) {H : Type} (enc : TypeId × Value → H) : ∃ places, DataW.whole enc Try.prog ((Base.plainWorld os).forCall (fun _ _ => 0) ⟨#[], #[.agg #[.int .i64 0, .int .i64 0, .int .i64 0, .int .i64 0, .slice none 0 0, .slice none 0 0, .int .i64 0, .int .i64 0, .int .i64 0, .int .i64 0, .int .i64 0, .int .i64 0, .bool false]], []⟩).memory Try.f3.params.toList Rows.msgBytesSpec.vars false (#[.agg #[.int .i64 0, .int .i64 0, .int .i64 0, .int .i64 0, .slice none 0 0, .slice none 0 0, .int .i64 0, .int .i64 0, .int .i64 0, .int .i64 0, .int .i64 0, .int .i64 0, .bool false]] : Array Value).toList 8 = some ([.agg [.lit (.int .i64 0), .agg [.lit (.int .i64 0), .lit (.int .i64 0), .lit (.int .i64 0)], .nil, .nil, .lit (.int .i64 0), .lit (.int .i64 0), .lit (.int .i64 0), .lit (.int .i64 0), .lit (.int .i64 0), .lit (.int .i64 0), .lit (.bool false)]], [], places) :=
  ⟨[], by kernel_rfl⟩

set_option maxRecDepth 100000 in
theorem lifted (os : Os) (started : os.Started) (H : Type) (enc : TypeId × Value → H) (F : Stop.Interp) :
    ReturnsInHanded {} Try.checked os 3 .any ((OpenSpec.ofChange Rows.msgBytesSpec).preRow enc Try.prog Try.f3 Rows.msgBytesRow.domain false Rows.msgBytesRow.laid) (((OpenSpec.ofChange Rows.msgBytesSpec).at F).post enc Try.prog Try.f3 false true false false) := by
  obtain ⟨places, hx⟩ := reads os enc
  refine returnsInHanded_of_row (C := Try.checked) (s := OpenSpec.ofChange Rows.msgBytesSpec) Base.own started (by kernel_rfl) Try.func3
    (witness_row_at (enc := enc) (C := Try.checked) false (Base.plainWorld os) #[.agg #[.int .i64 0, .int .i64 0, .int .i64 0, .int .i64 0, .slice none 0 0, .slice none 0 0, .int .i64 0, .int .i64 0, .int .i64 0, .int .i64 0, .int .i64 0, .int .i64 0, .bool false]] rfl (by kernel_rfl) (by kernel_rfl) (by kernel_rfl)
      (OpenSpec.preRow_of_cond 8 hx (by kernel_rfl) (fun k hk => by cases hk) (by kernel_rfl) (laid_met os))) ?_
  intro W base args ds gs before hval hW _ _ hsz _ _ _
  exact contract H enc W base args ds gs before hval hW hsz

theorem said : Rows.MsgBytesSaid :=
  OpenClaim.holds_of_cond 3 Try.f3 rfl rfl rfl rfl rfl rfl rfl ⟨rfl, rfl, rfl, rfl, rfl⟩ rfl rfl rfl rfl rfl (by kernel_rfl) Try.func3 (by kernel_rfl)
    (of_decide_eq_true (by kernel_rfl)) (by unfold Func.isWrapper; rw [if_neg (of_decide_eq_false (by kernel_rfl))]; exact ⟨rfl, rfl⟩)
    (fun os started H enc _ F => by rw [OpenClaim.pre_eq_preRow]; exact lifted os started H enc F)
#print axioms said
end Go.Proofs.Ytaekfbhkphlenaa.MsgBytes
