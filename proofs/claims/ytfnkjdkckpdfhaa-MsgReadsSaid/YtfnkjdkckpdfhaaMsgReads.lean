/-
  MsgReads is proved: any bytes are the message that the document says, which has just these, or none. Conditions: none.
-/
import Derived.Test.YtfnkjdkckpdfhaaMsgRd9
import Derived.Test.YtfnkjdkckpdfhaaMsgOpen
namespace Go.Proofs.Ytfnkjdkckpdfhaa.MsgReads
set_option maxRecDepth 100000
open Go.ChangeShapes Go.WideShapes Go.ChangeAt Go.RowKit Go.Proofs.Ytfnkjdkckpdfhaa.Mem Go.Proofs.Ytfnkjdkckpdfhaa.Item Go.Proofs.Ytfnkjdkckpdfhaa.Msg Go.Proofs.Ytfnkjdkckpdfhaa.Wire

def mLawR (va vx : Value) (s : ByteArray) : Nat → Value → World → Prop
  | 0, v, _ => v = .int .i64 0
  | 1, v, _ => v = .bool true
  | 2, v, _ => v = .bool true
  | 3, v, _ => v = va
  | 4, v, _ => v = va
  | 5, v, _ => v = vx
  | 6, v, _ => v = .bool true
  | 7, v, _ => v = .bool true
  | 8, v, _ => v = .bool true
  | 9, v, _ => v = .int .i64 0
  | 10, v, _ => v = .bool true
  | 11, v, _ => v = .bool true
  | 12, v, _ => v = .bool true
  | 13, v, _ => v = .string s
  | 14, v, _ => v = .string s
  | 15, v, _ => v = .bool true
  | 16, v, _ => v = .bool true
  | 17, v, _ => v = .bool true
  | _, _, _ => True
theorem mLawR_later {va vx : Value} {s : ByteArray} {j : Nat} {v : Value} {w w' : World} (_hb : Below w.heap.size w w') (h : mLawR va vx s j v w) : mLawR va vx s j v w' := by
  match j, h with
  | 0, h | 1, h | 2, h | 3, h | 4, h | 5, h | 6, h | 7, h | 8, h | 9, h | 10, h | 11, h | 12, h | 13, h | 14, h | 15, h | 16, h | 17, h => exact h
  | _ + 18, _ => exact trivial
set_option maxHeartbeats 4000000 in
theorem none_walk (s : ByteArray) (w : World) (hs : s.size ≤ 140737488355328) (hd : dec s = none) :
    Calls Try.prog 4 #[.string s] w fun e w' => e = .returned (.bool true) ∧ Below w.heap.size w w' := by
  have HD : Hid (decR s = rc0 ∧ decE s = 2 ∧ (dec s).isSome = false) := Lib.hid (by unfold decR decE; rw [hd]; exact ⟨rfl, rfl, rfl⟩)
  have HDE := Lib.hid (fun w' => decode_any s w' hs)
  have HRD := Lib.hid (fun (h : s.size ≤ 1000000) w' => refRead_any s w' h)
  rw [HD.out.1, HD.out.2.1] at HDE
  rw [HD.out.1, HD.out.2.2] at HRD
  clear hd HD hs
  go_enter Try.func4, Try.ntmps4
  go_wp2_with fail
  refine (rawake_any _).mono ?_
  rintro e w1 ⟨rfl, hb1⟩
  have HB1 := Lib.hid hb1
  clear hb1
  by_cases g1 : 5000 < s.size
  · go_wp2_with fail
    go_returns
    exact ⟨rfl, HB1.out⟩
  have HSZ : Hid (s.size ≤ 1000000) := Lib.hid (by omega)
  go_wp2_with fail
  refine (HDE.out _).mono ?_
  rintro e w2 ⟨⟨y, rfl, hh2⟩, hb2⟩
  obtain ⟨A, c, B, d⟩ := y
  have HB2 := Lib.hid (HB1.out.trans (hb2.mono HB1.out.size))
  have HH2 := Lib.hid hh2
  unfold Rc.val rc0
  simp only [List.length_nil]
  have hb3 := below_alloc w2 (.cells #[.int .i64 0, .int .i64 0, .int .i64 0, .int .i64 0, .slice A 0 c, .slice B 0 d, .int .i64 0, .int .i64 0, .int .i64 0, .int .i64 0, .int .i64 0, .int .i64 0, .bool false] 27)
  have HB3 := Lib.hid (HB2.out.trans (hb3.mono HB2.out.size))
  have HC3 := Lib.hid (cells_new w2 27 _ #[.int .i64 0, .int .i64 0, .int .i64 0, .int .i64 0, .slice A 0 c, .slice B 0 d, .int .i64 0, .int .i64 0, .int .i64 0, .int .i64 0, .int .i64 0, .int .i64 0, .bool false] rfl)
  have HH3 := Lib.hid (HH2.out.later hb3)
  obtain ⟨w3, hw3⟩ : ∃ v, v = w2.alloc (.cells #[.int .i64 0, .int .i64 0, .int .i64 0, .int .i64 0, .slice A 0 c, .slice B 0 d, .int .i64 0, .int .i64 0, .int .i64 0, .int .i64 0, .int .i64 0, .int .i64 0, .bool false] 27) := ⟨_, rfl⟩
  rw [← hw3] at HB3 HC3 HH3
  clear hb2 hh2 hb3 g1
  go_wp2_with fail
  rw [← hw3]
  clear hw3
  refine (HRD.out HSZ.out _).mono ?_
  rintro e w4 ⟨⟨y2, rfl, hh4⟩, hb4⟩
  obtain ⟨A2, c2, B2, d2⟩ := y2
  have HB4 := Lib.hid (HB3.out.trans (hb4.mono HB3.out.size))
  have HC4 := Lib.hid (HC3.out.later hb4)
  have HH4 := Lib.hid (HH3.out.later hb4)
  unfold Rc.val rc0
  simp only [List.length_nil]
  have hb5 := below_alloc w4 (.cells #[.int .i64 0, .int .i64 0, .int .i64 0, .int .i64 0, .slice A2 0 c2, .slice B2 0 d2, .int .i64 0, .int .i64 0, .int .i64 0, .int .i64 0, .int .i64 0, .int .i64 0, .bool false] 31)
  have HB5 := Lib.hid (HB4.out.trans (hb5.mono HB4.out.size))
  have HC5 := Lib.hid (HC4.out.later hb5)
  have HH5 := Lib.hid (HH4.out.later hb5)
  obtain ⟨w5, hw5⟩ : ∃ v, v = w4.alloc (.cells #[.int .i64 0, .int .i64 0, .int .i64 0, .int .i64 0, .slice A2 0 c2, .slice B2 0 d2, .int .i64 0, .int .i64 0, .int .i64 0, .int .i64 0, .int .i64 0, .int .i64 0, .bool false] 31) := ⟨_, rfl⟩
  rw [← hw5] at HB5 HC5 HH5
  obtain ⟨n3, hn3⟩ : ∃ n3, w2.heap.size = n3 := ⟨_, rfl⟩
  rw [hn3] at HC5 ⊢
  clear hb4 hh4 hb5 hn3 HC3 HC4
  go_upto_region 8 with (fail)
  rw [← hw5]
  clear hw5
  have hcq := HC5.out
  have q0 := hcq.cell (j := 0) rfl
  have q1 := hcq.cell (j := 1) rfl
  have q2 := hcq.cell (j := 2) rfl
  have q3 := hcq.cell (j := 3) rfl
  have q4 := hcq.cell (j := 4) rfl
  have q5 := hcq.cell (j := 5) rfl
  have q6 := hcq.cell (j := 6) rfl
  have q7 := hcq.cell (j := 7) rfl
  have q8 := hcq.cell (j := 8) rfl
  have q9 := hcq.cell (j := 9) rfl
  have q10 := hcq.cell (j := 10) rfl
  have q11 := hcq.cell (j := 11) rfl
  have q12 := hcq.cell (j := 12) rfl
  clear hcq
  go_wp2_with fail
  refine (plain_any rc0 ⟨A, c, B, d⟩ w5).mono ?_
  rintro e w6 ⟨rfl, hb6⟩
  unfold Rc.val rc0
  simp only [List.length_nil]
  have HB6 := Lib.hid (HB5.out.trans (hb6.mono HB5.out.size))
  have HSM := Lib.hid (same_any rc0 rc0 ⟨A, c, B, d⟩ lay0 w6 (HH5.out.later hb6) (has0 _) (by decide) (by decide))
  unfold Rc.val rc0 lay0 at HSM
  simp only [List.length_nil] at HSM
  clear hb6 q0 q1 q2 q3 q4 q5 q6 q7 q8 q9 q10 q11 q12
  go_wp2_with fail
  refine HSM.out.mono ?_
  rintro e w7 ⟨⟨v', rfl, hv'⟩, hb7⟩
  obtain rfl : v' = true := hv'.2 (by trivial)
  have HB7 := Lib.hid (HB6.out.trans (hb7.mono HB6.out.size))
  clear hb7 hv'
  go_wp2_with fail
  go_returns
  exact ⟨rfl, HB7.out⟩
set_option maxHeartbeats 4000000 in
theorem some_walk (s : ByteArray) (r : Rc) (w : World) (hs : s.size ≤ 140737488355328) (hd : dec s = some r) :
    Calls Try.prog 4 #[.string s] w fun e w' => e = .returned (.bool true) ∧ Below w.heap.size w w' := by
  have HD : Hid (decR s = r ∧ decE s = 0 ∧ (dec s).isSome = true) := Lib.hid (by unfold decR decE; rw [hd]; exact ⟨rfl, rfl, rfl⟩)
  have HBK := Lib.hid (dec_back hd)
  have HFEW := Lib.hid (right_few HBK.out.1)
  have HDE := Lib.hid (fun w' => decode_any s w' hs)
  have HRD := Lib.hid (fun (h : s.size ≤ 1000000) w' => refRead_any s w' h)
  rw [HD.out.1, HD.out.2.1] at HDE
  rw [HD.out.1, HD.out.2.2] at HRD
  have HEN : Hid (∀ y w', Has w' r y → Calls Try.prog 10 #[r.val y] w' fun e w'' => e = .returned (.tuple #[.string s, .int .i64 0]) ∧ Below w'.heap.size w' w'') := Lib.hid (fun y w' hh => by
    have h := encode_any r y w' hh (Nat.le_trans HFEW.out.items (by decide)) (Nat.le_trans HFEW.out.nodes (by decide))
    have he : enc r = (bytesR r, 0) := by unfold enc; rw [if_pos HBK.out.1]
    rw [he] at h
    simp only [HBK.out.2] at h
    exact h)
  have HPL0 := Lib.hid (fun y w' => plain_any r y w')
  have HSM0 := Lib.hid (fun y y2 w' (h1 : Has w' r y) (h2 : Has w' r y2) => same_any r r y y2 w' h1 h2 (Nat.le_trans HFEW.out.items (by decide)) (Nat.le_trans HFEW.out.nodes (by decide)))
  clear hd HD hs HBK HFEW
  obtain ⟨rr, hrr⟩ : ∃ rr, rr = r := ⟨_, rfl⟩
  have hHas : ∀ w' y, Has w' rr y → Has w' r y := by intro w' y h; rw [← hrr]; exact h
  have hHas2 : ∀ w' y, Has w' r y → Has w' rr y := by intro w' y h; rw [hrr]; exact h
  have HHAS := Lib.hid hHas
  have HHAS2 := Lib.hid hHas2
  clear hHas hHas2 hrr
  obtain ⟨k, ⟨t1, t2, t3⟩, its, nds, a0, a1, a2, a3, a4, a5, yes⟩ := r
  obtain ⟨L, hLL⟩ : ∃ L, its.length = L := ⟨_, rfl⟩
  obtain ⟨M, hMM⟩ : ∃ M, nds.length = M := ⟨_, rfl⟩
  unfold Rc.val at HDE HRD HEN HPL0 HSM0
  simp only [hLL, hMM] at HDE HRD HEN HPL0 HSM0
  clear hLL hMM
  go_enter Try.func4, Try.ntmps4
  go_wp2_with fail
  refine (rawake_any _).mono ?_
  rintro e w1 ⟨rfl, hb1⟩
  have HB1 := Lib.hid hb1
  clear hb1
  by_cases g1 : 5000 < s.size
  · go_wp2_with fail
    go_returns
    exact ⟨rfl, HB1.out⟩
  have HSZ : Hid (s.size ≤ 1000000) := Lib.hid (by omega)
  go_wp2_with fail
  refine (HDE.out _).mono ?_
  rintro e w2 ⟨⟨y, rfl, hh2⟩, hb2⟩
  have HY2 := Lib.hid (HHAS2.out _ _ hh2)
  obtain ⟨A, c, B, d⟩ := y
  have HB2 := Lib.hid (HB1.out.trans (hb2.mono HB1.out.size))
  have hb3 := below_alloc w2 (.cells #[.int .i64 k, .int .i64 t1, .int .i64 t2, .int .i64 t3, .slice A L c, .slice B M d, .int .i64 a0, .int .i64 a1, .int .i64 a2, .int .i64 a3, .int .i64 a4, .int .i64 a5, .bool yes] 27)
  have HB3 := Lib.hid (HB2.out.trans (hb3.mono HB2.out.size))
  have HC3 := Lib.hid (cells_new w2 27 _ #[.int .i64 k, .int .i64 t1, .int .i64 t2, .int .i64 t3, .slice A L c, .slice B M d, .int .i64 a0, .int .i64 a1, .int .i64 a2, .int .i64 a3, .int .i64 a4, .int .i64 a5, .bool yes] rfl)
  have HH3 := Lib.hid (HY2.out.later hb3)
  obtain ⟨w3, hw3⟩ : ∃ v, v = w2.alloc (.cells #[.int .i64 k, .int .i64 t1, .int .i64 t2, .int .i64 t3, .slice A L c, .slice B M d, .int .i64 a0, .int .i64 a1, .int .i64 a2, .int .i64 a3, .int .i64 a4, .int .i64 a5, .bool yes] 27) := ⟨_, rfl⟩
  rw [← hw3] at HB3 HC3 HH3
  obtain ⟨n3, hn3⟩ : ∃ n3, w2.heap.size = n3 := ⟨_, rfl⟩
  rw [hn3] at HC3
  clear hb2 hh2 hb3 g1 HY2
  simp only
  go_wp2_with fail
  rw [← hw3]
  clear hw3 hn3
  refine (HRD.out HSZ.out _).mono ?_
  rintro e w4 ⟨⟨y2, rfl, hh4⟩, hb4⟩
  have HY4 := Lib.hid (HHAS2.out _ _ hh4)
  obtain ⟨A2, c2, B2, d2⟩ := y2
  have HB4 := Lib.hid (HB3.out.trans (hb4.mono HB3.out.size))
  have HC4 := Lib.hid (HC3.out.later hb4)
  have HH4 := Lib.hid (HH3.out.later hb4)
  have hb5 := below_alloc w4 (.cells #[.int .i64 k, .int .i64 t1, .int .i64 t2, .int .i64 t3, .slice A2 L c2, .slice B2 M d2, .int .i64 a0, .int .i64 a1, .int .i64 a2, .int .i64 a3, .int .i64 a4, .int .i64 a5, .bool yes] 31)
  have HB5 := Lib.hid (HB4.out.trans (hb5.mono HB4.out.size))
  have HC5 := Lib.hid (HC4.out.later hb5)
  have HH5 := Lib.hid (HH4.out.later hb5)
  have HX5 := Lib.hid (HY4.out.later hb5)
  have HD5 := Lib.hid (cells_new w4 31 _ #[.int .i64 k, .int .i64 t1, .int .i64 t2, .int .i64 t3, .slice A2 L c2, .slice B2 M d2, .int .i64 a0, .int .i64 a1, .int .i64 a2, .int .i64 a3, .int .i64 a4, .int .i64 a5, .bool yes] rfl)
  obtain ⟨w5, hw5⟩ : ∃ v, v = w4.alloc (.cells #[.int .i64 k, .int .i64 t1, .int .i64 t2, .int .i64 t3, .slice A2 L c2, .slice B2 M d2, .int .i64 a0, .int .i64 a1, .int .i64 a2, .int .i64 a3, .int .i64 a4, .int .i64 a5, .bool yes] 31) := ⟨_, rfl⟩
  rw [← hw5] at HB5 HC5 HH5 HX5 HD5
  obtain ⟨n7, hn7⟩ : ∃ n7, w4.heap.size = n7 := ⟨_, rfl⟩
  rw [hn7] at HD5
  clear hb4 hh4 hb5 HC3 HC4 HY4 HH3 HH4
  simp only
  go_upto_region 9 with (fail)
  rw [← hw5]
  clear hw5 hn7
  have hcq := HC5.out
  have q0 := hcq.cell (j := 0) rfl
  have q1 := hcq.cell (j := 1) rfl
  have q2 := hcq.cell (j := 2) rfl
  have q3 := hcq.cell (j := 3) rfl
  have q4 := hcq.cell (j := 4) rfl
  have q5 := hcq.cell (j := 5) rfl
  have q6 := hcq.cell (j := 6) rfl
  have q7 := hcq.cell (j := 7) rfl
  have q8 := hcq.cell (j := 8) rfl
  have q9 := hcq.cell (j := 9) rfl
  have q10 := hcq.cell (j := 10) rfl
  have q11 := hcq.cell (j := 11) rfl
  have q12 := hcq.cell (j := 12) rfl
  clear hcq
  go_wp2_with fail
  refine (HEN.out ⟨A, c, B, d⟩ w5 (HHAS.out _ _ HH5.out)).mono ?_
  rintro e wr ⟨rfl, hb6⟩
  have HB6 := Lib.hid (HB5.out.trans (hb6.mono HB5.out.size))
  have HQ3 : Hid (∀ wi, Below wr.heap.size wr wi → Cells wi n3 27 _) := Lib.hid (fun wi hi => (HC5.out.later hb6).later hi)
  have HQ7 : Hid (∀ wi, Below wr.heap.size wr wi → Cells wi n7 31 _) := Lib.hid (fun wi hi => (HD5.out.later hb6).later hi)
  have HPL := Lib.hid (fun w' => HPL0.out ⟨A, c, B, d⟩ w')
  have HSM := Lib.hid (fun w' (hb : Below wr.heap.size wr w') => HSM0.out ⟨A, c, B, d⟩ ⟨A2, c2, B2, d2⟩ w' (HHAS.out _ _ ((HH5.out.later hb6).later hb)) (HHAS.out _ _ ((HX5.out.later hb6).later hb)))
  clear hb6 q0 q1 q2 q3 q4 q5 q6 q7 q8 q9 q10 q11 q12
  go_wp2_with fail
  refine Reg.region_heavy (by kernel_rfl) 17 [17] (mLawR (.agg #[.int .i64 k, .int .i64 t1, .int .i64 t2, .int .i64 t3, .slice A L c, .slice B M d, .int .i64 a0, .int .i64 a1, .int .i64 a2, .int .i64 a3, .int .i64 a4, .int .i64 a5, .bool yes]) (.agg #[.int .i64 k, .int .i64 t1, .int .i64 t2, .int .i64 t3, .slice A2 L c2, .slice B2 M d2, .int .i64 a0, .int .i64 a1, .int .i64 a2, .int .i64 a3, .int .i64 a4, .int .i64 a5, .bool yes]) s) (fun a => Below wr.heap.size wr a) (fun a => Below wr.heap.size wr a) (fun V => [(some 39, V 0), (some 40, V 1), (some 41, V 2), (some 42, V 3), (some 43, V 4), (some 44, V 5), (some 45, V 6), (some 46, V 7), (some 47, V 8), (some 48, V 9), (some 49, V 10), (some 50, V 11), (some 51, V 12), (some 52, V 13), (some 53, V 14), (some 54, V 15), (some 55, V 16), (some 2, V 17)]) (by kernel_rfl) (by kernel_rfl) (by kernel_rfl) (fun V => rfl) ?_ ?_ ?_
  · exact (Below.refl _ _).drew
  · intro i o ho
    have hi : i < 18 := (Array.getElem?_eq_some_iff.1 ho).1
    rcases i with _ | _ | _ | _ | _ | _ | _ | _ | _ | _ | _ | _ | _ | _ | _ | _ | _ | _ | i
    · obtain rfl := Option.some.inj ho
      intro ρ wi hE hI hs hd
      try dsimp only at hI
      have e4 : ρ (.tmp 4) = .int .i64 0 := hs 4 (by kernel_rfl)
      exact Reg.Gives.value (v := .int .i64 0) (w' := wi) (by go_simp) (Reg.OwedH.same hI rfl)
    · obtain rfl := Option.some.inj ho
      intro ρ wi hE hI hs hd
      try dsimp only at hI
      obtain ⟨u39, g39, e39⟩ := hd 0 39 (by kernel_rfl) (by kernel_rfl) (by show _ < 56; decide)
      obtain rfl : u39 = .int .i64 0 := g39
      have hc := hE.const
      exact Reg.Gives.value (v := .bool true) (w' := wi) (by go_simp) (Reg.OwedH.same hI rfl)
    · obtain rfl := Option.some.inj ho
      intro ρ wi hE hI hs hd
      try dsimp only at hI
      obtain ⟨u40, g40, e40⟩ := hd 1 40 (by kernel_rfl) (by kernel_rfl) (by show _ < 56; decide)
      obtain rfl : u40 = .bool true := g40
      exact Reg.Gives.value (v := .bool true) (w' := wi) (by go_simp) (Reg.OwedH.same hI rfl)
    · obtain rfl := Option.some.inj ho
      intro ρ wi hE hI hs hd
      try dsimp only at hI
      have e3 : ρ (.tmp 3) = .pointer (some ⟨n3, 0, none⟩) := hs 3 (by kernel_rfl)
      intro ug hgg
      obtain rfl : ug = .bool true := hgg
      refine ⟨fun _ => ?_, fun h => absurd rfl h⟩
      have hcq := HQ3.out wi hI
      have q0 := hcq.cell (j := 0) rfl
      have q1 := hcq.cell (j := 1) rfl
      have q2 := hcq.cell (j := 2) rfl
      have q3 := hcq.cell (j := 3) rfl
      have q4 := hcq.cell (j := 4) rfl
      have q5 := hcq.cell (j := 5) rfl
      have q6 := hcq.cell (j := 6) rfl
      have q7 := hcq.cell (j := 7) rfl
      have q8 := hcq.cell (j := 8) rfl
      have q9 := hcq.cell (j := 9) rfl
      have q10 := hcq.cell (j := 10) rfl
      have q11 := hcq.cell (j := 11) rfl
      have q12 := hcq.cell (j := 12) rfl
      exact Reg.Gives.value (v := (.agg #[.int .i64 k, .int .i64 t1, .int .i64 t2, .int .i64 t3, .slice A L c, .slice B M d, .int .i64 a0, .int .i64 a1, .int .i64 a2, .int .i64 a3, .int .i64 a4, .int .i64 a5, .bool yes])) (w' := wi) (by go_simp) (Reg.OwedH.same hI rfl)
    · obtain rfl := Option.some.inj ho
      intro ρ wi hE hI hs hd
      try dsimp only at hI
      obtain ⟨u42, g42, e42⟩ := hd 3 42 (by kernel_rfl) (by kernel_rfl) (by show _ < 56; decide)
      obtain rfl : u42 = (.agg #[.int .i64 k, .int .i64 t1, .int .i64 t2, .int .i64 t3, .slice A L c, .slice B M d, .int .i64 a0, .int .i64 a1, .int .i64 a2, .int .i64 a3, .int .i64 a4, .int .i64 a5, .bool yes]) := g42
      have hf := hE.func
      intro ug hgg
      obtain rfl : ug = .bool true := hgg
      refine ⟨fun _ => ?_, fun h => absurd rfl h⟩
      refine Reg.Gives.call (f := 9) (args := #[.agg #[.int .i64 k, .int .i64 t1, .int .i64 t2, .int .i64 t3, .slice A L c, .slice B M d, .int .i64 a0, .int .i64 a1, .int .i64 a2, .int .i64 a3, .int .i64 a4, .int .i64 a5, .bool yes]]) (w' := wi) (by go_simp) ?_
      refine (HPL.out wi).mono ?_
      rintro e w'' ⟨rfl, hbb⟩
      exact ⟨_, rfl, ⟨rfl, hI.trans (hbb.mono hI.size), fun j u _ _ h => mLawR_later hbb h⟩⟩
    · obtain rfl := Option.some.inj ho
      intro ρ wi hE hI hs hd
      try dsimp only at hI
      have e5 : ρ (.tmp 5) = .pointer (some ⟨n7, 0, none⟩) := hs 5 (by kernel_rfl)
      intro ug hgg
      obtain rfl : ug = .bool true := hgg
      refine ⟨fun _ => ?_, fun h => absurd rfl h⟩
      have hcq := HQ7.out wi hI
      have q0 := hcq.cell (j := 0) rfl
      have q1 := hcq.cell (j := 1) rfl
      have q2 := hcq.cell (j := 2) rfl
      have q3 := hcq.cell (j := 3) rfl
      have q4 := hcq.cell (j := 4) rfl
      have q5 := hcq.cell (j := 5) rfl
      have q6 := hcq.cell (j := 6) rfl
      have q7 := hcq.cell (j := 7) rfl
      have q8 := hcq.cell (j := 8) rfl
      have q9 := hcq.cell (j := 9) rfl
      have q10 := hcq.cell (j := 10) rfl
      have q11 := hcq.cell (j := 11) rfl
      have q12 := hcq.cell (j := 12) rfl
      exact Reg.Gives.value (v := (.agg #[.int .i64 k, .int .i64 t1, .int .i64 t2, .int .i64 t3, .slice A2 L c2, .slice B2 M d2, .int .i64 a0, .int .i64 a1, .int .i64 a2, .int .i64 a3, .int .i64 a4, .int .i64 a5, .bool yes])) (w' := wi) (by go_simp) (Reg.OwedH.same hI rfl)
    · obtain rfl := Option.some.inj ho
      intro ρ wi hE hI hs hd
      try dsimp only at hI
      obtain ⟨u43, g43, e43⟩ := hd 4 43 (by kernel_rfl) (by kernel_rfl) (by show _ < 56; decide)
      obtain rfl : u43 = (.agg #[.int .i64 k, .int .i64 t1, .int .i64 t2, .int .i64 t3, .slice A L c, .slice B M d, .int .i64 a0, .int .i64 a1, .int .i64 a2, .int .i64 a3, .int .i64 a4, .int .i64 a5, .bool yes]) := g43
      obtain ⟨u44, g44, e44⟩ := hd 5 44 (by kernel_rfl) (by kernel_rfl) (by show _ < 56; decide)
      obtain rfl : u44 = (.agg #[.int .i64 k, .int .i64 t1, .int .i64 t2, .int .i64 t3, .slice A2 L c2, .slice B2 M d2, .int .i64 a0, .int .i64 a1, .int .i64 a2, .int .i64 a3, .int .i64 a4, .int .i64 a5, .bool yes]) := g44
      have hf := hE.func
      intro ug hgg
      obtain rfl : ug = .bool true := hgg
      refine ⟨fun _ => ?_, fun h => absurd rfl h⟩
      refine Reg.Gives.call (f := 14) (args := #[.agg #[.int .i64 k, .int .i64 t1, .int .i64 t2, .int .i64 t3, .slice A L c, .slice B M d, .int .i64 a0, .int .i64 a1, .int .i64 a2, .int .i64 a3, .int .i64 a4, .int .i64 a5, .bool yes], .agg #[.int .i64 k, .int .i64 t1, .int .i64 t2, .int .i64 t3, .slice A2 L c2, .slice B2 M d2, .int .i64 a0, .int .i64 a1, .int .i64 a2, .int .i64 a3, .int .i64 a4, .int .i64 a5, .bool yes]]) (w' := wi) (by go_simp) ?_
      refine (HSM.out wi hI).mono ?_
      rintro e w'' ⟨⟨v', rfl, hv'⟩, hbb⟩
      obtain rfl : v' = true := hv'.2 (by trivial)
      exact ⟨_, rfl, ⟨rfl, hI.trans (hbb.mono hI.size), fun j u _ _ h => mLawR_later hbb h⟩⟩
    · obtain rfl := Option.some.inj ho
      intro ρ wi hE hI hs hd
      try dsimp only at hI
      obtain ⟨u41, g41, e41⟩ := hd 2 41 (by kernel_rfl) (by kernel_rfl) (by show _ < 56; decide)
      obtain rfl : u41 = .bool true := g41
      obtain ⟨u45, g45, e45⟩ := hd 6 45 (by kernel_rfl) (by kernel_rfl) (by show _ < 56; decide)
      obtain rfl : u45 = .bool true := g45
      have hc := hE.const
      exact Reg.Gives.value (v := .bool true) (w' := wi) (by go_simp) (Reg.OwedH.same hI rfl)
    · obtain rfl := Option.some.inj ho
      intro ρ wi hE hI hs hd
      try dsimp only at hI
      obtain ⟨u46, g46, e46⟩ := hd 7 46 (by kernel_rfl) (by kernel_rfl) (by show _ < 56; decide)
      obtain rfl : u46 = .bool true := g46
      exact Reg.Gives.value (v := .bool true) (w' := wi) (by go_simp) (Reg.OwedH.same hI rfl)
    · obtain rfl := Option.some.inj ho
      intro ρ wi hE hI hs hd
      try dsimp only at hI
      have e8 : ρ (.tmp 8) = .int .i64 0 := hs 8 (by kernel_rfl)
      intro ug hgg
      obtain rfl : ug = .bool true := hgg
      refine ⟨fun _ => ?_, fun h => absurd rfl h⟩
      exact Reg.Gives.value (v := .int .i64 0) (w' := wi) (by go_simp) (Reg.OwedH.same hI rfl)
    · obtain rfl := Option.some.inj ho
      intro ρ wi hE hI hs hd
      try dsimp only at hI
      obtain ⟨u48, g48, e48⟩ := hd 9 48 (by kernel_rfl) (by kernel_rfl) (by show _ < 56; decide)
      obtain rfl : u48 = .int .i64 0 := g48
      have hc := hE.const
      intro ug hgg
      obtain rfl : ug = .bool true := hgg
      refine ⟨fun _ => ?_, fun h => absurd rfl h⟩
      exact Reg.Gives.value (v := .bool true) (w' := wi) (by go_simp) (Reg.OwedH.same hI rfl)
    · obtain rfl := Option.some.inj ho
      intro ρ wi hE hI hs hd
      try dsimp only at hI
      obtain ⟨u47, g47, e47⟩ := hd 8 47 (by kernel_rfl) (by kernel_rfl) (by show _ < 56; decide)
      obtain rfl : u47 = .bool true := g47
      obtain ⟨u49, g49, e49⟩ := hd 10 49 (by kernel_rfl) (by kernel_rfl) (by show _ < 56; decide)
      obtain rfl : u49 = .bool true := g49
      have hc := hE.const
      exact Reg.Gives.value (v := .bool true) (w' := wi) (by go_simp) (Reg.OwedH.same hI rfl)
    · obtain rfl := Option.some.inj ho
      intro ρ wi hE hI hs hd
      try dsimp only at hI
      obtain ⟨u50, g50, e50⟩ := hd 11 50 (by kernel_rfl) (by kernel_rfl) (by show _ < 56; decide)
      obtain rfl : u50 = .bool true := g50
      exact Reg.Gives.value (v := .bool true) (w' := wi) (by go_simp) (Reg.OwedH.same hI rfl)
    · obtain rfl := Option.some.inj ho
      intro ρ wi hE hI hs hd
      try dsimp only at hI
      have e7 : ρ (.tmp 7) = .string s := hs 7 (by kernel_rfl)
      intro ug hgg
      obtain rfl : ug = .bool true := hgg
      refine ⟨fun _ => ?_, fun h => absurd rfl h⟩
      exact Reg.Gives.value (v := .string s) (w' := wi) (by go_simp) (Reg.OwedH.same hI rfl)
    · obtain rfl := Option.some.inj ho
      intro ρ wi hE hI hs hd
      try dsimp only at hI
      have e0 : ρ (.tmp 0) = .string s := hs 0 (by kernel_rfl)
      intro ug hgg
      obtain rfl : ug = .bool true := hgg
      refine ⟨fun _ => ?_, fun h => absurd rfl h⟩
      exact Reg.Gives.value (v := .string s) (w' := wi) (by go_simp) (Reg.OwedH.same hI rfl)
    · obtain rfl := Option.some.inj ho
      intro ρ wi hE hI hs hd
      try dsimp only at hI
      obtain ⟨u52, g52, e52⟩ := hd 13 52 (by kernel_rfl) (by kernel_rfl) (by show _ < 56; decide)
      obtain rfl : u52 = .string s := g52
      obtain ⟨u53, g53, e53⟩ := hd 14 53 (by kernel_rfl) (by kernel_rfl) (by show _ < 56; decide)
      obtain rfl : u53 = .string s := g53
      intro ug hgg
      obtain rfl : ug = .bool true := hgg
      refine ⟨fun _ => ?_, fun h => absurd rfl h⟩
      exact Reg.Gives.value (v := .bool true) (w' := wi) (by go_simp) (Reg.OwedH.same hI rfl)
    · obtain rfl := Option.some.inj ho
      intro ρ wi hE hI hs hd
      try dsimp only at hI
      obtain ⟨u51, g51, e51⟩ := hd 12 51 (by kernel_rfl) (by kernel_rfl) (by show _ < 56; decide)
      obtain rfl : u51 = .bool true := g51
      obtain ⟨u54, g54, e54⟩ := hd 15 54 (by kernel_rfl) (by kernel_rfl) (by show _ < 56; decide)
      obtain rfl : u54 = .bool true := g54
      have hc := hE.const
      exact Reg.Gives.value (v := .bool true) (w' := wi) (by go_simp) (Reg.OwedH.same hI rfl)
    · obtain rfl := Option.some.inj ho
      intro ρ wi hE hI hs hd
      try dsimp only at hI
      obtain ⟨u55, g55, e55⟩ := hd 16 55 (by kernel_rfl) (by kernel_rfl) (by show _ < 56; decide)
      obtain rfl : u55 = .bool true := g55
      exact Reg.Gives.value (v := .bool true) (w' := wi) (by go_simp) (Reg.OwedH.same hI rfl)
    · omega
  · intro V wa hV hI
    have hV17 : V 17 = .bool true := hV 17 (by decide) rfl
    simp only [Reg.putsO, List.foldl_cons, List.foldl_nil, Act.put, List.setIfInBounds_toArray, List.set_cons_succ, List.set_cons_zero, hV17]
    replace hI : (fun a => Below wr.heap.size wr a) wa := hI
    clear hV hV17
    have HW := Lib.hid (HB6.out.trans (hI.mono HB6.out.size))
    clear hI
    go_wp2_with fail
    go_returns
    exact ⟨rfl, HW.out⟩

theorem walk (s : ByteArray) (w : World) (hs : s.size ≤ 140737488355328) :
    Calls Try.prog 4 #[.string s] w fun e w' => e = .returned (.bool true) ∧ Below w.heap.size w w' := by
  cases hd : dec s with
  | none => exact none_walk s w hs hd
  | some r => exact some_walk s r w hs hd
theorem opened {H : Type} {enc : TypeId × Value → H} {W : World} {base : Nat} {gs : List (DataW H)} (v0 : Value) (d0 : DataW H) (p0 : List MemPlace)
    (o0 : Value.okWide Try.prog W .any base 9 v0) (t0 : DataW.Trod enc Try.prog W 0 (fun _ => true) true 9 v0 d0 p0)
    (hsz : (DataW.weightsEach Try.prog ([9] ++ []) ([d0] ++ gs)).all (· ≤ reachBytes) = true) :
    Calls Try.prog 4 #[v0] W fun e W' => e = .returned (.bool true) ∧ Below W.heap.size W W' := by
  obtain ⟨s, rfl, rfl, rfl, _⟩ := Go.ChangeMaps.open_string Try.underlying9 o0 t0
  have hs : s.size ≤ 140737488355328 := by
    have h2 := (Base.small_of hsz (j := 0) (t := 9) (d := .lit (.string s.data.toList)) rfl rfl).text
    rw [toList_size] at h2
    omega
  exact walk s W hs

theorem contract (H : Type) (enc : TypeId × Value → H) (W : World) (base : Nat) (args : Array Value) (ds gs : List (DataW H)) (before : List MemPlace)
    (hval : ∀ (j : Nat) t v, Try.f4.params[j]? = some t → args[j]? = some v → Value.okWide Try.prog W .any base t v)
    (hW : DataW.Whole enc Try.prog Try.f4.params.toList Rows.msgReadsSpec.vars false W args.toList ds gs before)
    (hsz : (DataW.weightsEach Try.prog (Try.f4.params.toList ++ []) (ds ++ gs)).all (· ≤ reachBytes) = true) :
    Calls Try.prog 4 args W fun e W' => ∃ v, e = .returned v ∧ Rows.msgReadsSpec.post enc Try.prog Try.f4 false true false false W args v W' := by
  have hW0 := hW
  obtain ⟨p, q, hA0, hV, rfl, _, _⟩ := hW
  have hA : DataW.TrodAll enc Try.prog W 0 (fun _ => true) true Try.f4.params.toList args.toList ds p := hA0
  rw [Try.params4] at hA hval hsz
  obtain ⟨v0, vs0, d0, ds0, p0, q0, hargs, rfl, rfl, h0, r0⟩ := trodAll_cons hA
  obtain ⟨rfl, rfl, rfl⟩ := trodAll_nil r0
  obtain rfl : args = #[v0] := by cases args; simp_all
  refine (opened v0 d0 p0 (hval 0 9 v0 rfl rfl) h0 hsz).mono fun e W' ⟨he, hb⟩ => ⟨_, he, ?_⟩
  exact Base.law_post (tb := 4) Base.laidOut (by kernel_rfl) rfl Try.underlying4 rfl (fun l hl => by
    rw [Try.params4] at hl
    match l, hl with
    | [_], _ => rfl) (by rw [Try.params4]; rfl) hW0 hb

theorem laid_met (os : Os) : laidMet Try.prog Rows.msgReadsRow.laid ((Base.plainWorld os).forCall (fun _ _ => 0) ⟨#[], #[.string ⟨#[]⟩], []⟩).memory := laidMet_nil _ _
theorem reads (os : Os) {H : Type} (enc : TypeId × Value → H) : ∃ places, DataW.whole enc Try.prog ((Base.plainWorld os).forCall (fun _ _ => 0) ⟨#[], #[.string ⟨#[]⟩], []⟩).memory Try.f4.params.toList Rows.msgReadsSpec.vars false (#[.string ⟨#[]⟩] : Array Value).toList 8 = some ([.lit (.string [])], [], places) :=
  ⟨[], by kernel_rfl⟩

set_option maxRecDepth 100000 in
theorem lifted (os : Os) (started : os.Started) (H : Type) (enc : TypeId × Value → H) (F : Stop.Interp) :
    ReturnsInHanded {} Try.checked os 4 .any ((OpenSpec.ofChange Rows.msgReadsSpec).preRow enc Try.prog Try.f4 Rows.msgReadsRow.domain false Rows.msgReadsRow.laid) (((OpenSpec.ofChange Rows.msgReadsSpec).at F).post enc Try.prog Try.f4 false true false false) := by
  obtain ⟨places, hx⟩ := reads os enc
  refine returnsInHanded_of_row (C := Try.checked) (s := OpenSpec.ofChange Rows.msgReadsSpec) Base.own started (by kernel_rfl) Try.func4
    (witness_row_at (enc := enc) (C := Try.checked) false (Base.plainWorld os) #[.string ⟨#[]⟩] rfl (by kernel_rfl) (by kernel_rfl) (by kernel_rfl)
      (OpenSpec.preRow_of_cond 8 hx (by kernel_rfl) (fun k hk => by cases hk) (by kernel_rfl) (laid_met os))) ?_
  intro W base args ds gs before hval hW _ _ hsz _ _ _
  exact contract H enc W base args ds gs before hval hW hsz

theorem said : Rows.MsgReadsSaid :=
  OpenClaim.holds_of_cond 4 Try.f4 rfl rfl rfl rfl rfl rfl rfl ⟨rfl, rfl, rfl, rfl, rfl⟩ rfl rfl rfl rfl rfl (by kernel_rfl) Try.func4 (by kernel_rfl)
    (of_decide_eq_true (by kernel_rfl)) (by unfold Func.isWrapper; rw [if_neg (of_decide_eq_false (by kernel_rfl))]; exact ⟨rfl, rfl⟩)
    (fun os started H enc _ F => by rw [OpenClaim.pre_eq_preRow]; exact lifted os started H enc F)
#print axioms said
end Go.Proofs.Ytfnkjdkckpdfhaa.MsgReads
