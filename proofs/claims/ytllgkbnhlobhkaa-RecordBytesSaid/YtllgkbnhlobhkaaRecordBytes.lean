/-
  RecordBytes is proved: any record is right, or not, and has the bytes that the document says, or none, and comes back from them. Conditions: none.
-/
import Derived.Test.YtllgkbnhlobhkaaRecOpen
import Derived.Test.YtllgkbnhlobhkaaRecByt
import Derived.Test.YtllgkbnhlobhkaaRecDec
namespace Go.Proofs.Ytllgkbnhlobhkaa.RecordBytes
set_option maxRecDepth 100000
open Go.ChangeShapes Go.WideShapes Go.ChangeAt Go.RowKit Go.Proofs.Ytllgkbnhlobhkaa.Mem Go.Proofs.Ytllgkbnhlobhkaa.Item Go.Proofs.Ytllgkbnhlobhkaa.Rec Go.Proofs.Ytllgkbnhlobhkaa.Wire

def rLawB (va vx : Value) (m : List UInt8) : Nat → Value → World → Prop
  | 0, v, _ => v = .int .i64 0
  | 1, v, _ => v = .bool true
  | 2, v, _ => v = .bool true
  | 3, v, _ => v = .string (bs m)
  | 4, v, _ => v = va
  | 5, v, _ => v = .string (bs m)
  | 6, v, _ => v = .bool true
  | 7, v, _ => v = .bool true
  | 8, v, _ => v = .bool true
  | 9, v, _ => v = .int .i64 0
  | 10, v, _ => v = .bool true
  | 11, v, _ => v = .bool true
  | 12, v, _ => v = .bool true
  | 13, v, _ => v = vx
  | 14, v, _ => v = vx
  | 15, v, _ => v = va
  | 16, v, _ => v = .bool true
  | 17, v, _ => v = .bool true
  | 18, v, _ => v = .bool true
  | _, _, _ => True
theorem rLawB_later {va vx : Value} {m : List UInt8} {j : Nat} {v : Value} {w w' : World} (_hb : Below w.heap.size w w') (h : rLawB va vx m j v w) : rLawB va vx m j v w' := by
  match j, h with
  | 0, h | 1, h | 2, h | 3, h | 4, h | 5, h | 6, h | 7, h | 8, h | 9, h | 10, h | 11, h | 12, h | 13, h | 14, h | 15, h | 16, h | 17, h | 18, h => exact h
  | _ + 19, _ => exact trivial
theorem dec_enc (r : Rc) (h : right r = true) (ok : r.ok) : dec (bs (bytesR r)) = some r := by
  have hk := right_kind h
  have e : bytesR r = [UInt8.ofNat r.kind.toNat] ++ (bodyB r (fl r.kind) ++ []) := by unfold bytesR; simp
  have l1 : ([UInt8.ofNat r.kind.toNat] : List UInt8).length = 1 := rfl
  have hn : Wire.num (bs (bytesR r)) 1 = r.kind.toNat := by
    rw [e, num_bs _ _ l1]
    show 0 * 256 + (UInt8.ofNat r.kind.toNat).toNat = _
    rw [UInt8.toNat_ofNat']
    omega
  have h0 : dec0 (bs (bytesR r)) = (r, bs [], false) := by
    unfold dec0
    rw [hn, show ((r.kind.toNat : Nat) : Int) = r.kind by omega, e, rest_bs _ _ l1, brk_bs _ _ _ l1, fold_put ok (right_few h), right_copy h]
  unfold dec
  rw [h0, if_pos ⟨rfl, h⟩]
set_option maxHeartbeats 4000000 in
theorem walk (r : Rc) (y : Lay) (w : World) (h : Has w r y) (ok : r.ok) (la : r.items.length ≤ maxLen ∧ r.nodes.length ≤ maxLen) :
    Calls Try.prog 4 #[r.val y] w fun e w' => e = .returned (.bool true) ∧ Below w.heap.size w w' := by
  unfold maxLen at la
  have HEN := Lib.hid (fun w' (hb : Below w.heap.size w w') (h1 : r.items.length ≤ 100) (h2 : r.nodes.length ≤ 100) => encode_any r y w' (h.later hb) h1 h2)
  have HRT := Lib.hid (fun w' (hb : Below w.heap.size w w') (h1 : r.items.length ≤ 100) (h2 : r.nodes.length ≤ 100) => right_any r y w' (h.later hb) (by omega) (by omega))
  have HRF0 := Lib.hid (fun w' (hb : Below w.heap.size w w') (h1 : r.items.length ≤ 100) (h2 : r.nodes.length ≤ 100) => refRight_any r y w' (h.later hb) (by omega) (by omega))
  rw [refRight_eq r ok] at HRF0
  have HPL := Lib.hid (fun w' => plain_any r y w')
  have HBY0 := Lib.hid (fun w' (hb : Below w.heap.size w w') (hr : right r = true) (h1 : r.items.length ≤ 100) (h2 : r.nodes.length ≤ 100) => (show Calls Try.prog 20 #[r.val y] w' fun e w'' => e = .returned (.string (bs (bytesR r))) ∧ Below w'.heap.size w' w'' by
    have hq := refBytes_any r y w' (right_kind hr) (h.later hb) h1 h2
    rwa [refBytes_eq r (right_kind hr)] at hq))
  have HSM0 := Lib.hid (fun w' y2 (hb : Below w.heap.size w w') (h2 : Has w' r y2) (h1 : r.items.length ≤ 100) (h3 : r.nodes.length ≤ 100) => same_any r r y2 y w' h2 (h.later hb) (by omega) (by omega))
  have HDE := Lib.hid (fun (hr : right r = true) (hs : (bs (bytesR r)).size ≤ 140737488355328) w' => (show Calls Try.prog 19 #[.string (bs (bytesR r))] w' fun e w'' => (∃ y2, e = .returned (.tuple #[r.val y2, .int .i64 0]) ∧ Has w'' r y2) ∧ Below w'.heap.size w' w'' by
    have hq := decode_any (bs (bytesR r)) w' hs
    have hd := dec_enc r hr ok
    unfold decR decE at hq
    rw [hd] at hq
    exact hq))
  have HLN := Lib.hid (fun (h1 : r.items.length ≤ 100) (h2 : r.nodes.length ≤ 100) => (show (bytesR r).length ≤ 100000 by
    have h3 := body_length r (fl r.kind) h1 h2
    have h4 := fl_len r.kind
    unfold bytesR
    rw [List.length_cons]
    omega))
  have HPX0 := Lib.hid (fun y2 w' => plain_any r y2 w')
  have HE1 := Lib.hid (fun (hr : right r = true) => (show enc r = (bytesR r, 0) by unfold enc; rw [if_pos hr]))
  have HE2 := Lib.hid (fun (hr : right r = false) => (show enc r = ([], 1) by unfold enc; rw [if_neg (by rw [hr]; decide)]))
  clear h ok
  obtain ⟨k, ⟨t1, t2, t3⟩, its, nds, a0, a1, a2, a3, a4, a5, a6, a7, yes⟩ := r
  obtain ⟨A, c, B, d⟩ := y
  obtain ⟨rr, hrr⟩ : ∃ rr : Rc, rr = ⟨k, ⟨t1, t2, t3⟩, its, nds, a0, a1, a2, a3, a4, a5, a6, a7, yes⟩ := ⟨_, rfl⟩
  obtain ⟨L, hLL⟩ : ∃ L, its.length = L := ⟨_, rfl⟩
  obtain ⟨M, hMM⟩ : ∃ M, nds.length = M := ⟨_, rfl⟩
  unfold Rc.val at HEN HRT HRF0 HPL HBY0 HSM0 HDE HPX0 ⊢
  simp only [hLL, hMM, ← hrr] at HEN HRT HRF0 HPL HBY0 HSM0 HDE HPX0 HLN HE1 HE2 la ⊢
  clear hLL hMM hrr
  have HB := Lib.hid (below_alloc w (.cells #[.int .i64 k, .int .i64 t1, .int .i64 t2, .int .i64 t3, .slice A L c, .slice B M d, .int .i64 a0, .int .i64 a1, .int .i64 a2, .int .i64 a3, .int .i64 a4, .int .i64 a5, .int .i64 a6, .int .i64 a7, .bool yes] 35))
  have HC := Lib.hid (cells_new w 35 _ #[.int .i64 k, .int .i64 t1, .int .i64 t2, .int .i64 t3, .slice A L c, .slice B M d, .int .i64 a0, .int .i64 a1, .int .i64 a2, .int .i64 a3, .int .i64 a4, .int .i64 a5, .int .i64 a6, .int .i64 a7, .bool yes] rfl)
  go_enter Try.func4, Try.ntmps4
  go_wp2_with fail
  refine (rawake_any _).mono ?_
  rintro e w1 ⟨rfl, hb1⟩
  have HB1 := Lib.hid (HB.out.trans (hb1.mono HB.out.size))
  have HC1 := Lib.hid (HC.out.later hb1)
  have hcq := HC1.out
  have q0 := hcq.cell (j := 0) rfl
  have q1 := hcq.cell (j := 1) rfl
  have q2 := hcq.cell (j := 2) rfl
  have q3 := hcq.cell (j := 3) rfl
  have q4 := hcq.cell (j := 4) rfl
  have q5 := hcq.cell (j := 5) rfl
  have q6 := hcq.cell (j := 6) rfl
  have q7 := hcq.cell (j := 7) rfl
  have q8 := hcq.cell (j := 8) rfl
  have q9 := hcq.cell (j := 9) rfl
  have q10 := hcq.cell (j := 10) rfl
  have q11 := hcq.cell (j := 11) rfl
  have q12 := hcq.cell (j := 12) rfl
  have q13 := hcq.cell (j := 13) rfl
  have q14 := hcq.cell (j := 14) rfl
  clear hcq hb1
  by_cases g1 : 60 < L
  · go_wp2_with fail
    go_returns
    exact ⟨rfl, HB1.out⟩
  by_cases g2 : 60 < M
  · go_wp2_with fail
    go_returns
    exact ⟨rfl, HB1.out⟩
  have HG : Hid (L ≤ 100 ∧ M ≤ 100) := Lib.hid ⟨by omega, by omega⟩
  go_wp2_with fail
  refine (HPL.out _).mono ?_
  rintro e w2 ⟨rfl, hb2⟩
  have HB2 := Lib.hid (HB1.out.trans (hb2.mono HB1.out.size))
  have hb3 := below_alloc w2 (.cells #[.int .i64 k, .int .i64 t1, .int .i64 t2, .int .i64 t3, .slice A L c, .slice B M d, .int .i64 a0, .int .i64 a1, .int .i64 a2, .int .i64 a3, .int .i64 a4, .int .i64 a5, .int .i64 a6, .int .i64 a7, .bool yes] 36)
  have HB3 := Lib.hid (HB2.out.trans (hb3.mono HB2.out.size))
  have HC3 := Lib.hid ((HC1.out.later hb2).later hb3)
  have HD3 := Lib.hid (cells_new w2 36 _ #[.int .i64 k, .int .i64 t1, .int .i64 t2, .int .i64 t3, .slice A L c, .slice B M d, .int .i64 a0, .int .i64 a1, .int .i64 a2, .int .i64 a3, .int .i64 a4, .int .i64 a5, .int .i64 a6, .int .i64 a7, .bool yes] rfl)
  clear hb2 hb3 q0 q1 q2 q3 q4 q5 q6 q7 q8 q9 q10 q11 q12 q13 q14 g1 g2
  go_wp2_with fail
  refine (HRF0.out _ HB3.out HG.out.1 HG.out.2).mono ?_
  rintro e w4 ⟨rfl, hb4⟩
  have HB4 := Lib.hid (HB3.out.trans (hb4.mono HB3.out.size))
  have HC4 := Lib.hid (HC3.out.later hb4)
  have HD4 := Lib.hid (HD3.out.later hb4)
  have hcq := HC4.out
  have q0 := hcq.cell (j := 0) rfl
  have q1 := hcq.cell (j := 1) rfl
  have q2 := hcq.cell (j := 2) rfl
  have q3 := hcq.cell (j := 3) rfl
  have q4 := hcq.cell (j := 4) rfl
  have q5 := hcq.cell (j := 5) rfl
  have q6 := hcq.cell (j := 6) rfl
  have q7 := hcq.cell (j := 7) rfl
  have q8 := hcq.cell (j := 8) rfl
  have q9 := hcq.cell (j := 9) rfl
  have q10 := hcq.cell (j := 10) rfl
  have q11 := hcq.cell (j := 11) rfl
  have q12 := hcq.cell (j := 12) rfl
  have q13 := hcq.cell (j := 13) rfl
  have q14 := hcq.cell (j := 14) rfl
  clear hcq hb4
  go_wp2_with fail
  refine (HEN.out _ HB4.out HG.out.1 HG.out.2).mono ?_
  rintro e w5 ⟨rfl, hb5⟩
  have HB5 := Lib.hid (HB4.out.trans (hb5.mono HB4.out.size))
  have HC5 := Lib.hid (HC4.out.later hb5)
  have HD5 := Lib.hid (HD4.out.later hb5)
  clear hb5 q0 q1 q2 q3 q4 q5 q6 q7 q8 q9 q10 q11 q12 q13 q14
  have hcq := HC5.out
  have q0 := hcq.cell (j := 0) rfl
  have q1 := hcq.cell (j := 1) rfl
  have q2 := hcq.cell (j := 2) rfl
  have q3 := hcq.cell (j := 3) rfl
  have q4 := hcq.cell (j := 4) rfl
  have q5 := hcq.cell (j := 5) rfl
  have q6 := hcq.cell (j := 6) rfl
  have q7 := hcq.cell (j := 7) rfl
  have q8 := hcq.cell (j := 8) rfl
  have q9 := hcq.cell (j := 9) rfl
  have q10 := hcq.cell (j := 10) rfl
  have q11 := hcq.cell (j := 11) rfl
  have q12 := hcq.cell (j := 12) rfl
  have q13 := hcq.cell (j := 13) rfl
  have q14 := hcq.cell (j := 14) rfl
  clear hcq
  go_wp2_with fail
  refine (HRT.out _ HB5.out HG.out.1 HG.out.2).mono ?_
  rintro e w6 ⟨rfl, hb6⟩
  have HB6 := Lib.hid (HB5.out.trans (hb6.mono HB5.out.size))
  have HD6 := Lib.hid (HD5.out.later hb6)
  clear hb6 q0 q1 q2 q3 q4 q5 q6 q7 q8 q9 q10 q11 q12 q13 q14
  by_cases hr : right rr = true
  · have HE := Lib.hid (HE1.out hr)
    have HDD := Lib.hid (HDE.out hr)
    have HBB := Lib.hid (fun w' hb => HBY0.out w' hb hr HG.out.1 HG.out.2)
    have HLL := Lib.hid (HLN.out HG.out.1 HG.out.2)
    rw [hr, HE.out]
    simp only
    obtain ⟨m, hm⟩ : ∃ m, bytesR rr = m := ⟨_, rfl⟩
    rw [hm] at HDD HBB HLL
    simp only [hm]
    clear hm hr
    go_wp2_with fail
    refine (HDD.out (by rw [bs_size]; have := HLL.out; omega) _).mono ?_
    rintro e w7 ⟨⟨y2, rfl, hh7⟩, hb7⟩
    obtain ⟨A2, c2, B2, d2⟩ := y2
    have HB7 := Lib.hid (HB6.out.trans (hb7.mono HB6.out.size))
    have HD7 := Lib.hid (HD6.out.later hb7)
    have HH7 := Lib.hid hh7
    have hb8 := below_alloc w7 (.cells #[.int .i64 k, .int .i64 t1, .int .i64 t2, .int .i64 t3, .slice A2 L c2, .slice B2 M d2, .int .i64 a0, .int .i64 a1, .int .i64 a2, .int .i64 a3, .int .i64 a4, .int .i64 a5, .int .i64 a6, .int .i64 a7, .bool yes] 35)
    obtain ⟨wr, hwr⟩ : ∃ wr, wr = w7.alloc (.cells #[.int .i64 k, .int .i64 t1, .int .i64 t2, .int .i64 t3, .slice A2 L c2, .slice B2 M d2, .int .i64 a0, .int .i64 a1, .int .i64 a2, .int .i64 a3, .int .i64 a4, .int .i64 a5, .int .i64 a6, .int .i64 a7, .bool yes] 35) := ⟨_, rfl⟩
    have HX8 : Hid (Cells wr w7.heap.size 35 _) := Lib.hid (by rw [hwr]; exact cells_new w7 35 _ #[.int .i64 k, .int .i64 t1, .int .i64 t2, .int .i64 t3, .slice A2 L c2, .slice B2 M d2, .int .i64 a0, .int .i64 a1, .int .i64 a2, .int .i64 a3, .int .i64 a4, .int .i64 a5, .int .i64 a6, .int .i64 a7, .bool yes] rfl)
    rw [← hwr] at hb8
    have HB8 := Lib.hid (HB7.out.trans (hb8.mono HB7.out.size))
    have HQ3 : Hid (∀ wi, Below wr.heap.size wr wi → Cells wi w2.heap.size 36 _) := Lib.hid (fun wi hi => (HD7.out.later hb8).later hi)
    have HQ7 : Hid (∀ wi, Below wr.heap.size wr wi → Cells wi w7.heap.size 35 _) := Lib.hid (fun wi hi => HX8.out.later hi)
    have HBY := Lib.hid (fun w' (hb : Below wr.heap.size wr w') => HBB.out w' (HB8.out.trans (hb.mono HB8.out.size)))
    have HSM := Lib.hid (fun w' (hb : Below wr.heap.size wr w') => HSM0.out w' ⟨A2, c2, B2, d2⟩ (HB8.out.trans (hb.mono HB8.out.size)) ((HH7.out.later hb8).later hb) HG.out.1 HG.out.2)
    have HPX := Lib.hid (fun w' => HPX0.out ⟨A2, c2, B2, d2⟩ w')
    clear hb7 hb8 hh7
    go_wp2_with fail
    rw [← hwr]
    clear hwr
    obtain ⟨n3, hn3⟩ : ∃ n3, w2.heap.size = n3 := ⟨_, rfl⟩
    obtain ⟨n7, hn7⟩ : ∃ n7, w7.heap.size = n7 := ⟨_, rfl⟩
    rw [hn3] at HQ3 ⊢
    rw [hn7] at HQ7 ⊢
    clear hn3 hn7
    refine Reg.region_heavy (by kernel_rfl) 18 [18] (rLawB (.agg #[.int .i64 k, .int .i64 t1, .int .i64 t2, .int .i64 t3, .slice A L c, .slice B M d, .int .i64 a0, .int .i64 a1, .int .i64 a2, .int .i64 a3, .int .i64 a4, .int .i64 a5, .int .i64 a6, .int .i64 a7, .bool yes]) (.agg #[.int .i64 k, .int .i64 t1, .int .i64 t2, .int .i64 t3, .slice A2 L c2, .slice B2 M d2, .int .i64 a0, .int .i64 a1, .int .i64 a2, .int .i64 a3, .int .i64 a4, .int .i64 a5, .int .i64 a6, .int .i64 a7, .bool yes]) m) (fun a => Below wr.heap.size wr a) (fun a => Below wr.heap.size wr a) (fun V => [(some 47, V 0), (some 48, V 1), (some 49, V 2), (some 50, V 3), (some 51, V 4), (some 52, V 5), (some 53, V 6), (some 54, V 7), (some 55, V 8), (some 56, V 9), (some 57, V 10), (some 58, V 11), (some 59, V 12), (some 60, V 13), (some 61, V 14), (some 62, V 15), (some 63, V 16), (some 64, V 17), (some 2, V 18)]) (by kernel_rfl) (by kernel_rfl) (by kernel_rfl) (fun V => rfl) ?_ ?_ ?_
    · exact (Below.refl _ _).drew
    · intro i o ho
      have hi : i < 19 := (Array.getElem?_eq_some_iff.1 ho).1
      rcases i with _ | _ | _ | _ | _ | _ | _ | _ | _ | _ | _ | _ | _ | _ | _ | _ | _ | _ | _ | i
      · obtain rfl := Option.some.inj ho
        intro ρ wi hE hI hs hd
        replace hI : (fun a => Below wr.heap.size wr a) wi := hI
        have e6 : ρ (.tmp 6) = .int .i64 0 := hs 6 (by kernel_rfl)
        exact Reg.Gives.value (v := .int .i64 0) (w' := wi) (by go_simp) (Reg.OwedH.same hI rfl)
      · obtain rfl := Option.some.inj ho
        intro ρ wi hE hI hs hd
        replace hI : (fun a => Below wr.heap.size wr a) wi := hI
        obtain ⟨u47, g47, e47⟩ := hd 0 47 (by kernel_rfl) (by kernel_rfl) (by show _ < 65; decide)
        obtain rfl : u47 = .int .i64 0 := g47
        have hc := hE.const
        exact Reg.Gives.value (v := .bool true) (w' := wi) (by go_simp) (Reg.OwedH.same hI rfl)
      · obtain rfl := Option.some.inj ho
        intro ρ wi hE hI hs hd
        replace hI : (fun a => Below wr.heap.size wr a) wi := hI
        obtain ⟨u48, g48, e48⟩ := hd 1 48 (by kernel_rfl) (by kernel_rfl) (by show _ < 65; decide)
        obtain rfl : u48 = .bool true := g48
        exact Reg.Gives.value (v := .bool true) (w' := wi) (by go_simp) (Reg.OwedH.same hI rfl)
      · obtain rfl := Option.some.inj ho
        intro ρ wi hE hI hs hd
        replace hI : (fun a => Below wr.heap.size wr a) wi := hI
        have e5 : ρ (.tmp 5) = .string (bs m) := hs 5 (by kernel_rfl)
        intro ug hgg
        obtain rfl : ug = .bool true := hgg
        refine ⟨fun _ => ?_, fun h => absurd rfl h⟩
        exact Reg.Gives.value (v := .string (bs m)) (w' := wi) (by go_simp) (Reg.OwedH.same hI rfl)
      · obtain rfl := Option.some.inj ho
        intro ρ wi hE hI hs hd
        replace hI : (fun a => Below wr.heap.size wr a) wi := hI
        have e3 : ρ (.tmp 3) = .pointer (some ⟨n3, 0, none⟩) := hs 3 (by kernel_rfl)
        intro ug hgg
        obtain rfl : ug = .bool true := hgg
        refine ⟨fun _ => ?_, fun h => absurd rfl h⟩
        have hcq := HQ3.out wi hI
        have q0 := hcq.cell (j := 0) rfl
        have q1 := hcq.cell (j := 1) rfl
        have q2 := hcq.cell (j := 2) rfl
        have q3 := hcq.cell (j := 3) rfl
        have q4 := hcq.cell (j := 4) rfl
        have q5 := hcq.cell (j := 5) rfl
        have q6 := hcq.cell (j := 6) rfl
        have q7 := hcq.cell (j := 7) rfl
        have q8 := hcq.cell (j := 8) rfl
        have q9 := hcq.cell (j := 9) rfl
        have q10 := hcq.cell (j := 10) rfl
        have q11 := hcq.cell (j := 11) rfl
        have q12 := hcq.cell (j := 12) rfl
        have q13 := hcq.cell (j := 13) rfl
        have q14 := hcq.cell (j := 14) rfl
        exact Reg.Gives.value (v := (.agg #[.int .i64 k, .int .i64 t1, .int .i64 t2, .int .i64 t3, .slice A L c, .slice B M d, .int .i64 a0, .int .i64 a1, .int .i64 a2, .int .i64 a3, .int .i64 a4, .int .i64 a5, .int .i64 a6, .int .i64 a7, .bool yes])) (w' := wi) (by go_simp) (Reg.OwedH.same hI rfl)
      · obtain rfl := Option.some.inj ho
        intro ρ wi hE hI hs hd
        replace hI : (fun a => Below wr.heap.size wr a) wi := hI
        obtain ⟨u51, g51, e51⟩ := hd 4 51 (by kernel_rfl) (by kernel_rfl) (by show _ < 65; decide)
        obtain rfl : u51 = (.agg #[.int .i64 k, .int .i64 t1, .int .i64 t2, .int .i64 t3, .slice A L c, .slice B M d, .int .i64 a0, .int .i64 a1, .int .i64 a2, .int .i64 a3, .int .i64 a4, .int .i64 a5, .int .i64 a6, .int .i64 a7, .bool yes]) := g51
        have hf := hE.func
        intro ug hgg
        obtain rfl : ug = .bool true := hgg
        refine ⟨fun _ => ?_, fun h => absurd rfl h⟩
        refine Reg.Gives.call (f := 20) (args := #[.agg #[.int .i64 k, .int .i64 t1, .int .i64 t2, .int .i64 t3, .slice A L c, .slice B M d, .int .i64 a0, .int .i64 a1, .int .i64 a2, .int .i64 a3, .int .i64 a4, .int .i64 a5, .int .i64 a6, .int .i64 a7, .bool yes]]) (w' := wi) (by go_simp) ?_
        refine (HBY.out wi hI).mono ?_
        rintro e w'' ⟨rfl, hbb⟩
        exact ⟨_, rfl, ⟨rfl, hI.trans (hbb.mono hI.size), fun j u _ _ h => rLawB_later hbb h⟩⟩
      · obtain rfl := Option.some.inj ho
        intro ρ wi hE hI hs hd
        replace hI : (fun a => Below wr.heap.size wr a) wi := hI
        obtain ⟨u50, g50, e50⟩ := hd 3 50 (by kernel_rfl) (by kernel_rfl) (by show _ < 65; decide)
        obtain rfl : u50 = .string (bs m) := g50
        obtain ⟨u52, g52, e52⟩ := hd 5 52 (by kernel_rfl) (by kernel_rfl) (by show _ < 65; decide)
        obtain rfl : u52 = .string (bs m) := g52
        intro ug hgg
        obtain rfl : ug = .bool true := hgg
        refine ⟨fun _ => ?_, fun h => absurd rfl h⟩
        exact Reg.Gives.value (v := .bool true) (w' := wi) (by go_simp) (Reg.OwedH.same hI rfl)
      · obtain rfl := Option.some.inj ho
        intro ρ wi hE hI hs hd
        replace hI : (fun a => Below wr.heap.size wr a) wi := hI
        obtain ⟨u49, g49, e49⟩ := hd 2 49 (by kernel_rfl) (by kernel_rfl) (by show _ < 65; decide)
        obtain rfl : u49 = .bool true := g49
        obtain ⟨u53, g53, e53⟩ := hd 6 53 (by kernel_rfl) (by kernel_rfl) (by show _ < 65; decide)
        obtain rfl : u53 = .bool true := g53
        have hc := hE.const
        exact Reg.Gives.value (v := .bool true) (w' := wi) (by go_simp) (Reg.OwedH.same hI rfl)
      · obtain rfl := Option.some.inj ho
        intro ρ wi hE hI hs hd
        replace hI : (fun a => Below wr.heap.size wr a) wi := hI
        obtain ⟨u54, g54, e54⟩ := hd 7 54 (by kernel_rfl) (by kernel_rfl) (by show _ < 65; decide)
        obtain rfl : u54 = .bool true := g54
        exact Reg.Gives.value (v := .bool true) (w' := wi) (by go_simp) (Reg.OwedH.same hI rfl)
      · obtain rfl := Option.some.inj ho
        intro ρ wi hE hI hs hd
        replace hI : (fun a => Below wr.heap.size wr a) wi := hI
        have e8 : ρ (.tmp 8) = .int .i64 0 := hs 8 (by kernel_rfl)
        intro ug hgg
        obtain rfl : ug = .bool true := hgg
        refine ⟨fun _ => ?_, fun h => absurd rfl h⟩
        exact Reg.Gives.value (v := .int .i64 0) (w' := wi) (by go_simp) (Reg.OwedH.same hI rfl)
      · obtain rfl := Option.some.inj ho
        intro ρ wi hE hI hs hd
        replace hI : (fun a => Below wr.heap.size wr a) wi := hI
        obtain ⟨u56, g56, e56⟩ := hd 9 56 (by kernel_rfl) (by kernel_rfl) (by show _ < 65; decide)
        obtain rfl : u56 = .int .i64 0 := g56
        have hc := hE.const
        intro ug hgg
        obtain rfl : ug = .bool true := hgg
        refine ⟨fun _ => ?_, fun h => absurd rfl h⟩
        exact Reg.Gives.value (v := .bool true) (w' := wi) (by go_simp) (Reg.OwedH.same hI rfl)
      · obtain rfl := Option.some.inj ho
        intro ρ wi hE hI hs hd
        replace hI : (fun a => Below wr.heap.size wr a) wi := hI
        obtain ⟨u55, g55, e55⟩ := hd 8 55 (by kernel_rfl) (by kernel_rfl) (by show _ < 65; decide)
        obtain rfl : u55 = .bool true := g55
        obtain ⟨u57, g57, e57⟩ := hd 10 57 (by kernel_rfl) (by kernel_rfl) (by show _ < 65; decide)
        obtain rfl : u57 = .bool true := g57
        have hc := hE.const
        exact Reg.Gives.value (v := .bool true) (w' := wi) (by go_simp) (Reg.OwedH.same hI rfl)
      · obtain rfl := Option.some.inj ho
        intro ρ wi hE hI hs hd
        replace hI : (fun a => Below wr.heap.size wr a) wi := hI
        obtain ⟨u58, g58, e58⟩ := hd 11 58 (by kernel_rfl) (by kernel_rfl) (by show _ < 65; decide)
        obtain rfl : u58 = .bool true := g58
        exact Reg.Gives.value (v := .bool true) (w' := wi) (by go_simp) (Reg.OwedH.same hI rfl)
      · obtain rfl := Option.some.inj ho
        intro ρ wi hE hI hs hd
        replace hI : (fun a => Below wr.heap.size wr a) wi := hI
        have e7 : ρ (.tmp 7) = .pointer (some ⟨n7, 0, none⟩) := hs 7 (by kernel_rfl)
        intro ug hgg
        obtain rfl : ug = .bool true := hgg
        refine ⟨fun _ => ?_, fun h => absurd rfl h⟩
        have hcq := HQ7.out wi hI
        have q0 := hcq.cell (j := 0) rfl
        have q1 := hcq.cell (j := 1) rfl
        have q2 := hcq.cell (j := 2) rfl
        have q3 := hcq.cell (j := 3) rfl
        have q4 := hcq.cell (j := 4) rfl
        have q5 := hcq.cell (j := 5) rfl
        have q6 := hcq.cell (j := 6) rfl
        have q7 := hcq.cell (j := 7) rfl
        have q8 := hcq.cell (j := 8) rfl
        have q9 := hcq.cell (j := 9) rfl
        have q10 := hcq.cell (j := 10) rfl
        have q11 := hcq.cell (j := 11) rfl
        have q12 := hcq.cell (j := 12) rfl
        have q13 := hcq.cell (j := 13) rfl
        have q14 := hcq.cell (j := 14) rfl
        exact Reg.Gives.value (v := (.agg #[.int .i64 k, .int .i64 t1, .int .i64 t2, .int .i64 t3, .slice A2 L c2, .slice B2 M d2, .int .i64 a0, .int .i64 a1, .int .i64 a2, .int .i64 a3, .int .i64 a4, .int .i64 a5, .int .i64 a6, .int .i64 a7, .bool yes])) (w' := wi) (by go_simp) (Reg.OwedH.same hI rfl)
      · obtain rfl := Option.some.inj ho
        intro ρ wi hE hI hs hd
        replace hI : (fun a => Below wr.heap.size wr a) wi := hI
        obtain ⟨u60, g60, e60⟩ := hd 13 60 (by kernel_rfl) (by kernel_rfl) (by show _ < 65; decide)
        obtain rfl : u60 = (.agg #[.int .i64 k, .int .i64 t1, .int .i64 t2, .int .i64 t3, .slice A2 L c2, .slice B2 M d2, .int .i64 a0, .int .i64 a1, .int .i64 a2, .int .i64 a3, .int .i64 a4, .int .i64 a5, .int .i64 a6, .int .i64 a7, .bool yes]) := g60
        have hf := hE.func
        intro ug hgg
        obtain rfl : ug = .bool true := hgg
        refine ⟨fun _ => ?_, fun h => absurd rfl h⟩
        refine Reg.Gives.call (f := 15) (args := #[.agg #[.int .i64 k, .int .i64 t1, .int .i64 t2, .int .i64 t3, .slice A2 L c2, .slice B2 M d2, .int .i64 a0, .int .i64 a1, .int .i64 a2, .int .i64 a3, .int .i64 a4, .int .i64 a5, .int .i64 a6, .int .i64 a7, .bool yes]]) (w' := wi) (by go_simp) ?_
        refine (HPX.out wi).mono ?_
        rintro e w'' ⟨rfl, hbb⟩
        exact ⟨_, rfl, ⟨rfl, hI.trans (hbb.mono hI.size), fun j u _ _ h => rLawB_later hbb h⟩⟩
      · obtain rfl := Option.some.inj ho
        intro ρ wi hE hI hs hd
        replace hI : (fun a => Below wr.heap.size wr a) wi := hI
        have e3 : ρ (.tmp 3) = .pointer (some ⟨n3, 0, none⟩) := hs 3 (by kernel_rfl)
        intro ug hgg
        obtain rfl : ug = .bool true := hgg
        refine ⟨fun _ => ?_, fun h => absurd rfl h⟩
        have hcq := HQ3.out wi hI
        have q0 := hcq.cell (j := 0) rfl
        have q1 := hcq.cell (j := 1) rfl
        have q2 := hcq.cell (j := 2) rfl
        have q3 := hcq.cell (j := 3) rfl
        have q4 := hcq.cell (j := 4) rfl
        have q5 := hcq.cell (j := 5) rfl
        have q6 := hcq.cell (j := 6) rfl
        have q7 := hcq.cell (j := 7) rfl
        have q8 := hcq.cell (j := 8) rfl
        have q9 := hcq.cell (j := 9) rfl
        have q10 := hcq.cell (j := 10) rfl
        have q11 := hcq.cell (j := 11) rfl
        have q12 := hcq.cell (j := 12) rfl
        have q13 := hcq.cell (j := 13) rfl
        have q14 := hcq.cell (j := 14) rfl
        exact Reg.Gives.value (v := (.agg #[.int .i64 k, .int .i64 t1, .int .i64 t2, .int .i64 t3, .slice A L c, .slice B M d, .int .i64 a0, .int .i64 a1, .int .i64 a2, .int .i64 a3, .int .i64 a4, .int .i64 a5, .int .i64 a6, .int .i64 a7, .bool yes])) (w' := wi) (by go_simp) (Reg.OwedH.same hI rfl)
      · obtain rfl := Option.some.inj ho
        intro ρ wi hE hI hs hd
        replace hI : (fun a => Below wr.heap.size wr a) wi := hI
        obtain ⟨u61, g61, e61⟩ := hd 14 61 (by kernel_rfl) (by kernel_rfl) (by show _ < 65; decide)
        obtain rfl : u61 = (.agg #[.int .i64 k, .int .i64 t1, .int .i64 t2, .int .i64 t3, .slice A2 L c2, .slice B2 M d2, .int .i64 a0, .int .i64 a1, .int .i64 a2, .int .i64 a3, .int .i64 a4, .int .i64 a5, .int .i64 a6, .int .i64 a7, .bool yes]) := g61
        obtain ⟨u62, g62, e62⟩ := hd 15 62 (by kernel_rfl) (by kernel_rfl) (by show _ < 65; decide)
        obtain rfl : u62 = (.agg #[.int .i64 k, .int .i64 t1, .int .i64 t2, .int .i64 t3, .slice A L c, .slice B M d, .int .i64 a0, .int .i64 a1, .int .i64 a2, .int .i64 a3, .int .i64 a4, .int .i64 a5, .int .i64 a6, .int .i64 a7, .bool yes]) := g62
        have hf := hE.func
        intro ug hgg
        obtain rfl : ug = .bool true := hgg
        refine ⟨fun _ => ?_, fun h => absurd rfl h⟩
        refine Reg.Gives.call (f := 21) (args := #[.agg #[.int .i64 k, .int .i64 t1, .int .i64 t2, .int .i64 t3, .slice A2 L c2, .slice B2 M d2, .int .i64 a0, .int .i64 a1, .int .i64 a2, .int .i64 a3, .int .i64 a4, .int .i64 a5, .int .i64 a6, .int .i64 a7, .bool yes], .agg #[.int .i64 k, .int .i64 t1, .int .i64 t2, .int .i64 t3, .slice A L c, .slice B M d, .int .i64 a0, .int .i64 a1, .int .i64 a2, .int .i64 a3, .int .i64 a4, .int .i64 a5, .int .i64 a6, .int .i64 a7, .bool yes]]) (w' := wi) (by go_simp) ?_
        refine (HSM.out wi hI).mono ?_
        rintro e w'' ⟨⟨v', rfl, hv'⟩, hbb⟩
        obtain rfl : v' = true := hv'.2 (by trivial)
        exact ⟨_, rfl, ⟨rfl, hI.trans (hbb.mono hI.size), fun j u _ _ h => rLawB_later hbb h⟩⟩
      · obtain rfl := Option.some.inj ho
        intro ρ wi hE hI hs hd
        replace hI : (fun a => Below wr.heap.size wr a) wi := hI
        obtain ⟨u59, g59, e59⟩ := hd 12 59 (by kernel_rfl) (by kernel_rfl) (by show _ < 65; decide)
        obtain rfl : u59 = .bool true := g59
        obtain ⟨u63, g63, e63⟩ := hd 16 63 (by kernel_rfl) (by kernel_rfl) (by show _ < 65; decide)
        obtain rfl : u63 = .bool true := g63
        have hc := hE.const
        exact Reg.Gives.value (v := .bool true) (w' := wi) (by go_simp) (Reg.OwedH.same hI rfl)
      · obtain rfl := Option.some.inj ho
        intro ρ wi hE hI hs hd
        replace hI : (fun a => Below wr.heap.size wr a) wi := hI
        obtain ⟨u64, g64, e64⟩ := hd 17 64 (by kernel_rfl) (by kernel_rfl) (by show _ < 65; decide)
        obtain rfl : u64 = .bool true := g64
        exact Reg.Gives.value (v := .bool true) (w' := wi) (by go_simp) (Reg.OwedH.same hI rfl)
      · omega
    · intro V wa hV hI
      have hV18 : V 18 = .bool true := hV 18 (by decide) rfl
      simp only [Reg.putsO, List.foldl_cons, List.foldl_nil, Act.put, List.setIfInBounds_toArray, List.set_cons_succ, List.set_cons_zero, hV18]
      replace hI : (fun a => Below wr.heap.size wr a) wa := hI
      clear hV hV18
      have HW := Lib.hid (HB8.out.trans (hI.mono HB8.out.size))
      clear hI
      go_wp2_with fail
      go_returns
      exact ⟨rfl, HW.out⟩
  · have hr' : right rr = false := by simpa using hr
    have HE := Lib.hid (HE2.out hr')
    rw [hr', HE.out]
    simp only [bs]
    clear hr hr'
    go_wp2_with fail
    go_returns
    exact ⟨rfl, HB6.out⟩

theorem opened {H : Type} {enc : TypeId × Value → H} {W : World} {base : Nat} {gs : List (DataW H)} (v0 : Value) (d0 : DataW H) (p0 : List MemPlace)
    (o0 : Value.okWide Try.prog W .any base 35 v0) (t0 : DataW.Trod enc Try.prog W 0 (fun _ => true) true 35 v0 d0 p0)
    (_hsz : (DataW.weightsEach Try.prog ([35] ++ []) ([d0] ++ gs)).all (· ≤ reachBytes) = true) :
    Calls Try.prog 4 #[v0] W fun e W' => e = .returned (.bool true) ∧ Below W.heap.size W W' := by
  obtain ⟨a, ya, rfl, ha, oa, la1, la2⟩ := open_rec o0 t0
  exact walk a ya W ha oa ⟨la1, la2⟩

theorem contract (H : Type) (enc : TypeId × Value → H) (W : World) (base : Nat) (args : Array Value) (ds gs : List (DataW H)) (before : List MemPlace)
    (hval : ∀ (j : Nat) t v, Try.f4.params[j]? = some t → args[j]? = some v → Value.okWide Try.prog W .any base t v)
    (hW : DataW.Whole enc Try.prog Try.f4.params.toList Rows.recordBytesSpec.vars false W args.toList ds gs before)
    (hsz : (DataW.weightsEach Try.prog (Try.f4.params.toList ++ []) (ds ++ gs)).all (· ≤ reachBytes) = true) :
    Calls Try.prog 4 args W fun e W' => ∃ v, e = .returned v ∧ Rows.recordBytesSpec.post enc Try.prog Try.f4 false true false false W args v W' := by
  have hW0 := hW
  obtain ⟨p, q, hA0, hV, rfl, _, _⟩ := hW
  have hA : DataW.TrodAll enc Try.prog W 0 (fun _ => true) true Try.f4.params.toList args.toList ds p := hA0
  rw [Try.params4] at hA hval hsz
  obtain ⟨v0, vs0, d0, ds0, p0, q0, hargs, rfl, rfl, h0, r0⟩ := trodAll_cons hA
  obtain ⟨rfl, rfl, rfl⟩ := trodAll_nil r0
  obtain rfl : args = #[v0] := by cases args; simp_all
  refine (opened v0 d0 p0 (hval 0 35 v0 rfl rfl) h0 hsz).mono fun e W' ⟨he, hb⟩ => ⟨_, he, ?_⟩
  exact Base.law_post (tb := 4) Base.laidOut (by kernel_rfl) rfl Try.underlying4 rfl (fun l hl => by
    rw [Try.params4] at hl
    match l, hl with
    | [_], _ => rfl) (by rw [Try.params4]; rfl) hW0 hb

theorem laid_met (os : Os) : laidMet Try.prog Rows.recordBytesRow.laid ((Base.plainWorld os).forCall (fun _ _ => 0) ⟨#[], #[.agg #[.int .i64 0, .int .i64 0, .int .i64 0, .int .i64 0, .slice none 0 0, .slice none 0 0, .int .i64 0, .int .i64 0, .int .i64 0, .int .i64 0, .int .i64 0, .int .i64 0, .int .i64 0, .int .i64 0, .bool false]], []⟩).memory := laidMet_nil _ _
theorem reads (os : Os) {H : Type} (enc : TypeId × Value → H) : ∃ places, DataW.whole enc Try.prog ((Base.plainWorld os).forCall (fun _ _ => 0) ⟨#[], #[.agg #[.int .i64 0, .int .i64 0, .int .i64 0, .int .i64 0, .slice none 0 0, .slice none 0 0, .int .i64 0, .int .i64 0, .int .i64 0, .int .i64 0, .int .i64 0, .int .i64 0, .int .i64 0, .int .i64 0, .bool false]], []⟩).memory Try.f4.params.toList Rows.recordBytesSpec.vars false (#[.agg #[.int .i64 0, .int .i64 0, .int .i64 0, .int .i64 0, .slice none 0 0, .slice none 0 0, .int .i64 0, .int .i64 0, .int .i64 0, .int .i64 0, .int .i64 0, .int .i64 0, .int .i64 0, .int .i64 0, .bool false]] : Array Value).toList 8 = some ([.agg [.lit (.int .i64 0), .agg [.lit (.int .i64 0), .lit (.int .i64 0), .lit (.int .i64 0)], .nil, .nil, .lit (.int .i64 0), .lit (.int .i64 0), .lit (.int .i64 0), .lit (.int .i64 0), .lit (.int .i64 0), .lit (.int .i64 0), .lit (.int .i64 0), .lit (.int .i64 0), .lit (.bool false)]], [], places) :=
  ⟨[], by kernel_rfl⟩

set_option maxRecDepth 100000 in
theorem lifted (os : Os) (started : os.Started) (H : Type) (enc : TypeId × Value → H) (F : Stop.Interp) :
    ReturnsInHanded {} Try.checked os 4 .any ((OpenSpec.ofChange Rows.recordBytesSpec).preRow enc Try.prog Try.f4 Rows.recordBytesRow.domain false Rows.recordBytesRow.laid) (((OpenSpec.ofChange Rows.recordBytesSpec).at F).post enc Try.prog Try.f4 false true false false) := by
  obtain ⟨places, hx⟩ := reads os enc
  refine returnsInHanded_of_row (C := Try.checked) (s := OpenSpec.ofChange Rows.recordBytesSpec) Base.own started (by kernel_rfl) Try.func4
    (witness_row_at (enc := enc) (C := Try.checked) false (Base.plainWorld os) #[.agg #[.int .i64 0, .int .i64 0, .int .i64 0, .int .i64 0, .slice none 0 0, .slice none 0 0, .int .i64 0, .int .i64 0, .int .i64 0, .int .i64 0, .int .i64 0, .int .i64 0, .int .i64 0, .int .i64 0, .bool false]] rfl (by kernel_rfl) (by kernel_rfl) (by kernel_rfl)
      (OpenSpec.preRow_of_cond 8 hx (by kernel_rfl) (fun k hk => by cases hk) (by kernel_rfl) (laid_met os))) ?_
  intro W base args ds gs before hval hW _ _ hsz _ _ _
  exact contract H enc W base args ds gs before hval hW hsz

theorem said : Rows.RecordBytesSaid :=
  OpenClaim.holds_of_cond 4 Try.f4 rfl rfl rfl rfl rfl rfl rfl ⟨rfl, rfl, rfl, rfl, rfl⟩ rfl rfl rfl rfl rfl (by kernel_rfl) Try.func4 (by kernel_rfl)
    (of_decide_eq_true (by kernel_rfl)) (by unfold Func.isWrapper; rw [if_neg (of_decide_eq_false (by kernel_rfl))]; exact ⟨rfl, rfl⟩)
    (fun os started H enc _ F => by rw [OpenClaim.pre_eq_preRow]; exact lifted os started H enc F)
#print axioms said
end Go.Proofs.Ytllgkbnhlobhkaa.RecordBytes
