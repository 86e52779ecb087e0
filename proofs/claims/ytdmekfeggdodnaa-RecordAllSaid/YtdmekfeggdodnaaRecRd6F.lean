/-
  Layer 7: the document reads a record: one kind. Conditions: none.
-/
import Derived.Test.YtdmekfeggdodnaaRecRd5
namespace Go.Proofs.Ytdmekfeggdodnaa.Rec
set_option maxRecDepth 100000
open Go.RowKit Go.Proofs.Ytdmekfeggdodnaa.Mem Go.Proofs.Ytdmekfeggdodnaa.Item Go.Proofs.Ytdmekfeggdodnaa.Wire

def rRdN (va vb : Value) (bl off n fc jx f : Nat) (x : Int) : Nat → Value → World → Prop
  | 0, v, _ => v = va
  | 1, v, _ => v = .slice (some ⟨bl, off, none⟩) n fc
  | 2, v, _ => v = .int .i64 (jx : Int)
  | 3, v, _ => v = .pointer (some ⟨bl, off + jx, none⟩)
  | 4, v, _ => v = .int .i64 (f : Int)
  | 5, v, _ => v = .int .i64 x
  | 6, v, _ => v = vb
  | 7, _, _ => True
  | _, _, _ => True
theorem rRdN_later {va vb : Value} {bl off n fc jx f : Nat} {x : Int} {j : Nat} {v : Value} {w w' : World} (_hb : Below w.heap.size w w') (h : rRdN va vb bl off n fc jx f x j v w) : rRdN va vb bl off n fc jx f x j v w' := by
  match j, h with
  | 0, h | 1, h | 2, h | 3, h | 4, h | 5, h | 6, h | 7, h => exact h
  | _ + 8, _ => exact trivial
theorem rRdN_keep {va vb : Value} {bl off n fc jx f : Nat} {x : Int} {j : Nat} {v : Value} {w w' : World}  (h : rRdN va vb bl off n fc jx f x j v w) : rRdN va vb bl off n fc jx f x j v w' := by
  match j, h with
  | 0, h | 1, h | 2, h | 3, h | 4, h | 5, h | 6, h | 7, h => exact h
  | _ + 8, _ => exact trivial
set_option maxHeartbeats 4000000 in
theorem refReadF (s : ByteArray) (w : World) (hs : s.size ≤ 1000000) (kn : Int) (hkn : ((Wire.num s 1 : Nat) : Int) = kn) (h4 : kn ≠ 4) (h5 : kn ≠ 5) (h6 : kn ≠ 6) (h7 : kn ≠ 7) (h11 : kn ≠ 11) :
    Calls Try.prog 17 #[.string s] w fun e w' => (∃ y, e = .returned (.tuple #[(decR s).val y, .bool (dec s).isSome]) ∧ Has w' (decR s) y) ∧ Below w.heap.size w w' := by
  have HSIM0 : Hid (Sim s (rcK kn) (inA 0 s 0 false) (inB 0 s 0 false) (rcK kn, rest s 1, brk s false 1)) := Lib.hid (by have := sim_start s; rw [hkn] at this; exact this)
  have HD0 : Hid (dec0 s = foldF (fl kn) (rcK kn, rest s 1, brk s false 1)) := Lib.hid (by unfold dec0; rw [hkn])
  have HKV : Hid (inV 0 s 0 false = kn) := Lib.hid ((sim_kind s).1.trans hkn)
  have HSZ := Lib.hid hs
  clear hkn hs
  have HFIN0 : Hid ((dec s = none → decR s = rc0 ∧ (dec s).isSome = false) ∧ ∀ x, dec s = some x → decR s = x ∧ (dec s).isSome = true) := Lib.hid (by
    unfold decR
    exact ⟨fun h => by rw [h]; exact ⟨rfl, rfl⟩, fun x h => by rw [h]; exact ⟨rfl, rfl⟩⟩)
  obtain ⟨R, hR⟩ : ∃ R, decR s = R := ⟨_, rfl⟩
  obtain ⟨D, hD⟩ : ∃ D, (dec s).isSome = D := ⟨_, rfl⟩
  rw [hR, hD] at HFIN0
  rw [hR, hD]
  clear hR hD
  obtain ⟨w3, hw3⟩ : ∃ w3, w3 = ((w.alloc (.cells #[.int .i64 0, .int .i64 0, .int .i64 0, .int .i64 0, .slice none 0 0, .slice none 0 0, .int .i64 0, .int .i64 0, .int .i64 0, .int .i64 0, .int .i64 0, .int .i64 0, .int .i64 0, .int .i64 0, .bool false] 39)).alloc (.cells #[.string s, .int .i64 0, .bool false] 111)).alloc (.cells #[.int .i64 0, .int .i64 0, .int .i64 0, .int .i64 0, .slice none 0 0, .slice none 0 0, .int .i64 0, .int .i64 0, .int .i64 0, .int .i64 0, .int .i64 0, .int .i64 0, .int .i64 0, .int .i64 0, .bool false] 39) := ⟨_, rfl⟩
  have HST : Hid (rfSt w w3 rc0 s 0 false lay0) := Lib.hid (by
    rw [hw3]
    have q1 := cells_new w 39 zeroC #[.int .i64 0, .int .i64 0, .int .i64 0, .int .i64 0, .slice none 0 0, .slice none 0 0, .int .i64 0, .int .i64 0, .int .i64 0, .int .i64 0, .int .i64 0, .int .i64 0, .int .i64 0, .int .i64 0, .bool false] rfl
    have q2 := cells_new (w.alloc (.cells #[.int .i64 0, .int .i64 0, .int .i64 0, .int .i64 0, .slice none 0 0, .slice none 0 0, .int .i64 0, .int .i64 0, .int .i64 0, .int .i64 0, .int .i64 0, .int .i64 0, .int .i64 0, .int .i64 0, .bool false] 39)) 111 _ #[.string s, .int .i64 0, .bool false] rfl
    have q3 := cells_new ((w.alloc (.cells #[.int .i64 0, .int .i64 0, .int .i64 0, .int .i64 0, .slice none 0 0, .slice none 0 0, .int .i64 0, .int .i64 0, .int .i64 0, .int .i64 0, .int .i64 0, .int .i64 0, .int .i64 0, .int .i64 0, .bool false] 39)).alloc (.cells #[.string s, .int .i64 0, .bool false] 111)) 39 (rc0.vals lay0) #[.int .i64 0, .int .i64 0, .int .i64 0, .int .i64 0, .slice none 0 0, .slice none 0 0, .int .i64 0, .int .i64 0, .int .i64 0, .int .i64 0, .int .i64 0, .int .i64 0, .int .i64 0, .int .i64 0, .bool false] rfl
    rw [World.size_alloc] at q2
    rw [World.size_alloc, World.size_alloc] at q3
    exact ⟨q2.later (below_alloc _ _), Go.Joins.below_alloc3 _ _ _ _, by simp, q3, (q1.later (below_alloc _ _)).later (below_alloc _ _), World.ownsRow_nil _ _ _ _, World.ownsRow_nil _ _ _ _, fun i hi => by cases hi⟩)
  go_enter Try.func17, Try.ntmps17
  go_wp2_with fail
  rw [← hw3]
  clear hw3
  refine (in_any 0 s 0 false (w.heap.size + 1) w3 (by decide) HST.out.inn (Nat.zero_le _) HSZ.out).mono ?_
  rintro e wa ⟨rfl, hia, hoa⟩
  have h1 := HST.out.step hia hoa
  have HS1 := Lib.hid h1
  rw [HKV.out]
  obtain ⟨pa, ha1⟩ : ∃ pa, inA 0 s 0 false = pa := ⟨_, rfl⟩
  obtain ⟨pb, hb1⟩ : ∃ pb, inB 0 s 0 false = pb := ⟨_, rfl⟩
  rw [ha1, hb1] at HS1 HSIM0
  have c0 := h1.rcd.cell (j := 0) rfl
  have f0 := h1.rcd.frozen (j := 0) (by simp [Rc.vals])
  obtain ⟨wb, hwb⟩ : ∃ wb, wb = wa.setCell ⟨w.heap.size + 1 + 1, 0, none⟩ (.int .i64 kn) := ⟨_, rfl⟩
  have HS2 : Hid (rfSt w wb (rcK kn) s pa pb lay0) := Lib.hid (by
    rw [hwb]
    exact HS1.out.put (x' := rcK kn) (Only.of_set wa ⟨w.heap.size + 1 + 1, 0, none⟩ _) (HS1.out.rcd.set_ 0 (.int .i64 kn)) rfl rfl)
  clear h1 hia hoa ha1 hb1
  go_wp2_with fail
  rw [← hwb]
  clear hwb c0 f0
  refine (refFields_all kn wb).mono ?_
  rintro e wc ⟨FA, fc, rfl, hnu, hnew, hbc⟩
  have HS3 := Lib.hid (HS2.out.later hbc)
  have HNU := Lib.hid hnu
  have HFR : Hid (∀ b off, FA = some ⟨b, off, none⟩ → w.heap.size + 3 ≤ b) := Lib.hid (fun b off e => Nat.le_trans HS2.out.low (hnew b off e))
  clear hnu hnew hbc
  have HLE := Lib.hid HSIM0.out.pos.le
  have HPL0 : Hid (Plain (rcK kn) kn) := Lib.hid ⟨rfl, rfl, rfl, rfl, rfl⟩
  have HLN := Lib.hid (rl_len kn)
  have HBD := Lib.hid (rl_bound kn)
  have HSIM := Lib.hid (sim_numN s (rl kn) (rl_bound kn) (t := (rcK kn, pa, pb)) HSIM0.out)
  rw [← rl_fl kn h4 h5 h6 h7 h11, ← HD0.out] at HSIM
  obtain ⟨FLS, hFLS⟩ : ∃ FLS, rl kn = FLS := ⟨_, rfl⟩
  rw [hFLS] at HNU HLN HBD HSIM
  rw [hFLS]
  obtain ⟨FL, hFL⟩ : ∃ FL, FLS.length = FL := ⟨_, rfl⟩
  have HFL := Lib.hid hFL
  rw [hFL] at HLN
  rw [hFL]
  have g4 : (kn == 4) = false := by simpa using h4
  have g5 : (kn == 5) = false := by simpa using h5
  have g6 : (kn == 6) = false := by simpa using h6
  have g11 : (kn == 11) = false := by simpa using h11
  have HNM : Hid (named kn = false) := Lib.hid (by unfold named; rw [decide_eq_false (by omega)])
  clear hFLS hFL h4 h5 h6 h7 h11
  go_wp2_with fail
  go_loopw [7, 8] (fun i _ wr => ∃ k : Nat, k ≤ FL ∧ i = .int .i64 (k : Int) ∧ rfSt w wr (numN s (FLS.take k) (rcK kn, pa, pb)).1 s (numN s (FLS.take k) (rcK kn, pa, pb)).2.1 (numN s (FLS.take k) (rcK kn, pa, pb)).2.2 lay0 ∧ Nums wr FA FLS) (fun i _ _ => FL - (intOf i).toNat)
  case atStart => exact ⟨0, Nat.zero_le _, rfl, HS3.out, HNU.out⟩
  case round =>
    obtain ⟨k, hk, rfl, hst, hnu⟩ := hrel
    have hFL6 := HLN.out
    by_cases hlt : k < FL
    · have hlt' : k < FLS.length := by have := HFL.out; omega
      have HPL := Lib.hid (numN_plain s (FLS.take k) (t := (rcK kn, pa, pb)) HPL0.out)
      have HAL := Lib.hid (numN_le s (FLS.take k) (t := (rcK kn, pa, pb)) HLE.out)
      have HB1 := Lib.hid (HBD.out _ (List.getElem_mem hlt'))
      obtain ⟨f, hf⟩ : ∃ f : Nat, FLS[k] = (f : Int) := ⟨FLS[k].toNat, by have := HB1.out; omega⟩
      rw [hf] at HB1
      obtain ⟨g, hg⟩ : ∃ g, f = g + 1 := ⟨f - 1, by have := HB1.out; omega⟩
      have HST1 := Lib.hid (numN_step s FLS k g hlt' (by rw [hf, hg]) (rcK kn, pa, pb))
      obtain ⟨bl, off, hFA, hcl⟩ := hnu k hlt'
      subst hFA
      rw [hf] at hcl
      have HNU2 := Lib.hid hnu
      obtain ⟨t, ht⟩ : ∃ t, numN s (FLS.take k) (rcK kn, pa, pb) = t := ⟨_, rfl⟩
      rw [ht] at hst HPL HAL HST1
      obtain ⟨x, a, b⟩ := t
      simp only at hst HPL HAL HST1
      have HST2 := Lib.hid hst
      have HGB : Hid (g < 8 ∧ f = g + 1) := Lib.hid ⟨by have := HB1.out; omega, hg⟩
      have HCL := Lib.hid hcl
      clear hst hnu hcl ht hf hg hlt'
      go_wp2_with fail
      refine (in_any 3 s a b (w.heap.size + 1) wr (by decide) HST2.out.inn HAL.out HSZ.out).mono ?_
      rintro e w2 ⟨rfl, hi2, ho2⟩
      obtain ⟨n, hn⟩ : ∃ n, inV 3 s a b = n := ⟨_, rfl⟩
      rw [hn] at HST1
      rw [hn]
      have HS5 := Lib.hid (HST2.out.step hi2 ho2)
      have HNU3 : Hid (Nums w2 (some ⟨bl, off, none⟩) FLS) := Lib.hid (Nums.only HNU2.out ho2 fun _ b' off' e hs => by have := HFR.out b' off' e; omega)
      have HFC : Hid (∀ wi, Below w2.heap.size w2 wi → wi.cell? ⟨bl, off + k, none⟩ = some (.int .i64 (f : Int))) := Lib.hid (fun wi hb => by
        have hbl : bl ≠ w.heap.size + 1 := by have := HFR.out bl off rfl; omega
        have h1 := HCL.out
        have h2 : w2.cell? ⟨bl, off + k, none⟩ = some (.int .i64 (f : Int)) := only_cell ho2 h1 hbl
        exact (hb.cell (block_of_cell h2)).trans h2)
      have HSET0 := Lib.hid (fun w' => refSet_any x lay0 g n w' HGB.out.1)
      have HP2 := Lib.hid (plain_set HPL.out g n)
      obtain ⟨x', hx'⟩ : ∃ x', setN x g n = x' := ⟨_, rfl⟩
      rw [hx'] at HSET0 HP2 HST1
      obtain ⟨xk, xt, xi, xn, a0, a1, a2, a3, a4, a5, a6, a7, xy⟩ := x
      obtain ⟨yk, yt, yi, yn, n0, n1, n2, n3, n4, n5, n6, n7, yy⟩ := x'
      obtain ⟨e1, e2, e3, e4, e5⟩ := HPL.out
      simp only at e1 e2 e3 e4 e5
      obtain rfl : kn = xk := e1.symm
      obtain rfl : (⟨0, 0, 0⟩ : Tid) = xt := e2.symm
      obtain rfl : ([] : List It) = xi := e3.symm
      obtain rfl : ([] : List Int) = xn := e4.symm
      obtain rfl : false = xy := e5.symm
      obtain ⟨e1, e2, e3, e4, e5⟩ := HP2.out
      simp only at e1 e2 e3 e4 e5
      obtain rfl : kn = yk := e1.symm
      obtain rfl : (⟨0, 0, 0⟩ : Tid) = yt := e2.symm
      obtain rfl : ([] : List It) = yi := e3.symm
      obtain rfl : ([] : List Int) = yn := e4.symm
      obtain rfl : false = yy := e5.symm
      have HQ : Hid (∀ wi, Below w2.heap.size w2 wi → Cells wi (w.heap.size + 1 + 1) 39 [.int .i64 kn, .int .i64 0, .int .i64 0, .int .i64 0, .slice none 0 0, .slice none 0 0, .int .i64 a0, .int .i64 a1, .int .i64 a2, .int .i64 a3, .int .i64 a4, .int .i64 a5, .int .i64 a6, .int .i64 a7, .bool false]) := Lib.hid (fun wi hb => HS5.out.rcd.later hb)
      have HSET : Hid (∀ w', Calls Try.prog 52 #[.agg #[.int .i64 kn, .int .i64 0, .int .i64 0, .int .i64 0, .slice none 0 0, .slice none 0 0, .int .i64 a0, .int .i64 a1, .int .i64 a2, .int .i64 a3, .int .i64 a4, .int .i64 a5, .int .i64 a6, .int .i64 a7, .bool false], .int .i64 (f : Int), .int .i64 n] w' fun e w'' => e = .returned (.agg #[.int .i64 kn, .int .i64 0, .int .i64 0, .int .i64 0, .slice none 0 0, .slice none 0 0, .int .i64 n0, .int .i64 n1, .int .i64 n2, .int .i64 n3, .int .i64 n4, .int .i64 n5, .int .i64 n6, .int .i64 n7, .bool false]) ∧ Below w'.heap.size w' w'') := Lib.hid (fun w' => by
        have h := HSET0.out w'
        rw [← HGB.out.2] at h
        exact h)
      have HJ : Hid (k < FL) := Lib.hid hlt
      have HJ2 := Lib.hid (show ((k : Int).toNat < FL) by omega)
      clear hi2 ho2 hn hx' HSET0 HPL HP2 HAL HB1 HCL HNU2 HST2 e1 e2 e3 e4 e5
      go_wp2_with fail
      refine Reg.region_heavy (by kernel_rfl) 7 [] (rRdN (.agg #[.int .i64 kn, .int .i64 0, .int .i64 0, .int .i64 0, .slice none 0 0, .slice none 0 0, .int .i64 a0, .int .i64 a1, .int .i64 a2, .int .i64 a3, .int .i64 a4, .int .i64 a5, .int .i64 a6, .int .i64 a7, .bool false]) (.agg #[.int .i64 kn, .int .i64 0, .int .i64 0, .int .i64 0, .slice none 0 0, .slice none 0 0, .int .i64 n0, .int .i64 n1, .int .i64 n2, .int .i64 n3, .int .i64 n4, .int .i64 n5, .int .i64 n6, .int .i64 n7, .bool false]) bl off FL fc k f n) (fun a => Below w2.heap.size w2 a) (fun a' => ∃ wb, Below w2.heap.size w2 wb ∧ Only (fun j => j = w.heap.size + 1 + 1) wb a' ∧ Cells a' (w.heap.size + 1 + 1) 39 [.int .i64 kn, .int .i64 0, .int .i64 0, .int .i64 0, .slice none 0 0, .slice none 0 0, .int .i64 n0, .int .i64 n1, .int .i64 n2, .int .i64 n3, .int .i64 n4, .int .i64 n5, .int .i64 n6, .int .i64 n7, .bool false]) (fun V => [(some 32, V 0), (some 33, V 1), (some 34, V 2), (some 35, V 3), (some 36, V 4), (some 37, V 5), (some 38, V 6), (none, V 7)]) (by kernel_rfl) (by kernel_rfl) (by kernel_rfl) (fun V => rfl) ?_ ?_ ?_
      · exact (Below.refl _ _).drew
      · intro i o ho
        have hi : i < 8 := (Array.getElem?_eq_some_iff.1 ho).1
        rcases i with _ | _ | _ | _ | _ | _ | _ | _ | i
        · obtain rfl := Option.some.inj ho
          intro ρ wi hE hI hs hd
          replace hI : (fun a => Below w2.heap.size w2 a) wi := hI
          have e5 : ρ (.tmp 5) = .pointer (some ⟨w.heap.size + 1 + 1, 0, none⟩) := hs 5 (by kernel_rfl)
          have hcq := HQ.out wi hI
          have q0 := hcq.cell (j := 0) rfl
          have q1 := hcq.cell (j := 1) rfl
          have q2 := hcq.cell (j := 2) rfl
          have q3 := hcq.cell (j := 3) rfl
          have q4 := hcq.cell (j := 4) rfl
          have q5 := hcq.cell (j := 5) rfl
          have q6 := hcq.cell (j := 6) rfl
          have q7 := hcq.cell (j := 7) rfl
          have q8 := hcq.cell (j := 8) rfl
          have q9 := hcq.cell (j := 9) rfl
          have q10 := hcq.cell (j := 10) rfl
          have q11 := hcq.cell (j := 11) rfl
          have q12 := hcq.cell (j := 12) rfl
          have q13 := hcq.cell (j := 13) rfl
          have q14 := hcq.cell (j := 14) rfl
          exact Reg.Gives.value (v := (.agg #[.int .i64 kn, .int .i64 0, .int .i64 0, .int .i64 0, .slice none 0 0, .slice none 0 0, .int .i64 a0, .int .i64 a1, .int .i64 a2, .int .i64 a3, .int .i64 a4, .int .i64 a5, .int .i64 a6, .int .i64 a7, .bool false])) (w' := wi) (by go_simp) (Reg.OwedH.same hI rfl)
        · obtain rfl := Option.some.inj ho
          intro ρ wi hE hI hs hd
          replace hI : (fun a => Below w2.heap.size w2 a) wi := hI
          have e6 : ρ (.tmp 6) = .slice (some ⟨bl, off, none⟩) FL fc := hs 6 (by kernel_rfl)
          exact Reg.Gives.value (v := .slice (some ⟨bl, off, none⟩) FL fc) (w' := wi) (by go_simp) (Reg.OwedH.same hI rfl)
        · obtain rfl := Option.some.inj ho
          intro ρ wi hE hI hs hd
          replace hI : (fun a => Below w2.heap.size w2 a) wi := hI
          have e7 : ρ (.tmp 7) = .int .i64 (k : Int) := hs 7 (by kernel_rfl)
          exact Reg.Gives.value (v := .int .i64 (k : Int)) (w' := wi) (by go_simp) (Reg.OwedH.same hI rfl)
        · obtain rfl := Option.some.inj ho
          intro ρ wi hE hI hs hd
          replace hI : (fun a => Below w2.heap.size w2 a) wi := hI
          obtain ⟨u33, g33, e33⟩ := hd 1 33 (by kernel_rfl) (by kernel_rfl) (by show _ < 156; decide)
          obtain rfl : u33 = .slice (some ⟨bl, off, none⟩) FL fc := g33
          obtain ⟨u34, g34, e34⟩ := hd 2 34 (by kernel_rfl) (by kernel_rfl) (by show _ < 156; decide)
          obtain rfl : u34 = .int .i64 (k : Int) := g34
          have hx := HJ.out
          exact Reg.Gives.value (v := .pointer (some ⟨bl, off + k, none⟩)) (w' := wi) (by go_simp) (Reg.OwedH.same hI rfl)
        · obtain rfl := Option.some.inj ho
          intro ρ wi hE hI hs hd
          replace hI : (fun a => Below w2.heap.size w2 a) wi := hI
          obtain ⟨u35, g35, e35⟩ := hd 3 35 (by kernel_rfl) (by kernel_rfl) (by show _ < 156; decide)
          obtain rfl : u35 = .pointer (some ⟨bl, off + k, none⟩) := g35
          have hx := HFC.out wi hI
          exact Reg.Gives.value (v := .int .i64 (f : Int)) (w' := wi) (by go_simp) (Reg.OwedH.same hI rfl)
        · obtain rfl := Option.some.inj ho
          intro ρ wi hE hI hs hd
          replace hI : (fun a => Below w2.heap.size w2 a) wi := hI
          have e8 : ρ (.tmp 8) = .int .i64 n := hs 8 (by kernel_rfl)
          exact Reg.Gives.value (v := .int .i64 n) (w' := wi) (by go_simp) (Reg.OwedH.same hI rfl)
        · obtain rfl := Option.some.inj ho
          intro ρ wi hE hI hs hd
          replace hI : (fun a => Below w2.heap.size w2 a) wi := hI
          obtain ⟨u32, g32, e32⟩ := hd 0 32 (by kernel_rfl) (by kernel_rfl) (by show _ < 156; decide)
          obtain rfl : u32 = (.agg #[.int .i64 kn, .int .i64 0, .int .i64 0, .int .i64 0, .slice none 0 0, .slice none 0 0, .int .i64 a0, .int .i64 a1, .int .i64 a2, .int .i64 a3, .int .i64 a4, .int .i64 a5, .int .i64 a6, .int .i64 a7, .bool false]) := g32
          obtain ⟨u36, g36, e36⟩ := hd 4 36 (by kernel_rfl) (by kernel_rfl) (by show _ < 156; decide)
          obtain rfl : u36 = .int .i64 (f : Int) := g36
          obtain ⟨u37, g37, e37⟩ := hd 5 37 (by kernel_rfl) (by kernel_rfl) (by show _ < 156; decide)
          obtain rfl : u37 = .int .i64 n := g37
          have hf := hE.func
          refine Reg.Gives.call (f := 52) (args := #[.agg #[.int .i64 kn, .int .i64 0, .int .i64 0, .int .i64 0, .slice none 0 0, .slice none 0 0, .int .i64 a0, .int .i64 a1, .int .i64 a2, .int .i64 a3, .int .i64 a4, .int .i64 a5, .int .i64 a6, .int .i64 a7, .bool false], .int .i64 (f : Int), .int .i64 n]) (w' := wi) (by go_simp) ?_
          refine (HSET.out wi).mono ?_
          rintro e w'' ⟨rfl, hbb⟩
          exact ⟨_, rfl, ⟨rfl, hI.trans (hbb.mono hI.size), fun j u _ _ h => rRdN_later hbb h⟩⟩
        · obtain rfl := Option.some.inj ho
          intro ρ wi hE hI hs hd
          replace hI : (fun a => Below w2.heap.size w2 a) wi := hI
          have e5 : ρ (.tmp 5) = .pointer (some ⟨w.heap.size + 1 + 1, 0, none⟩) := hs 5 (by kernel_rfl)
          obtain ⟨u38, g38, e38⟩ := hd 6 38 (by kernel_rfl) (by kernel_rfl) (by show _ < 156; decide)
          obtain rfl : u38 = (.agg #[.int .i64 kn, .int .i64 0, .int .i64 0, .int .i64 0, .slice none 0 0, .slice none 0 0, .int .i64 n0, .int .i64 n1, .int .i64 n2, .int .i64 n3, .int .i64 n4, .int .i64 n5, .int .i64 n6, .int .i64 n7, .bool false]) := g38
          have hcq := HQ.out wi hI
          have q0 := hcq.cell (j := 0) rfl
          have q1 := hcq.cell (j := 1) rfl
          have q2 := hcq.cell (j := 2) rfl
          have q3 := hcq.cell (j := 3) rfl
          have q4 := hcq.cell (j := 4) rfl
          have q5 := hcq.cell (j := 5) rfl
          have q6 := hcq.cell (j := 6) rfl
          have q7 := hcq.cell (j := 7) rfl
          have q8 := hcq.cell (j := 8) rfl
          have q9 := hcq.cell (j := 9) rfl
          have q10 := hcq.cell (j := 10) rfl
          have q11 := hcq.cell (j := 11) rfl
          have q12 := hcq.cell (j := 12) rfl
          have q13 := hcq.cell (j := 13) rfl
          have q14 := hcq.cell (j := 14) rfl
          have fq0 := hcq.frozen (j := 0) (by simp)
          have fq1 := hcq.frozen (j := 1) (by simp)
          have fq2 := hcq.frozen (j := 2) (by simp)
          have fq3 := hcq.frozen (j := 3) (by simp)
          have fq4 := hcq.frozen (j := 4) (by simp)
          have fq5 := hcq.frozen (j := 5) (by simp)
          have fq6 := hcq.frozen (j := 6) (by simp)
          have fq7 := hcq.frozen (j := 7) (by simp)
          have fq8 := hcq.frozen (j := 8) (by simp)
          have fq9 := hcq.frozen (j := 9) (by simp)
          have fq10 := hcq.frozen (j := 10) (by simp)
          have fq11 := hcq.frozen (j := 11) (by simp)
          have fq12 := hcq.frozen (j := 12) (by simp)
          have fq13 := hcq.frozen (j := 13) (by simp)
          have fq14 := hcq.frozen (j := 14) (by simp)
          have hz := (((((((((((((((hcq.set_ 0 (.int .i64 kn)).set_ 1 (.int .i64 0)).set_ 2 (.int .i64 0)).set_ 3 (.int .i64 0)).set_ 4 (.slice none 0 0)).set_ 5 (.slice none 0 0)).set_ 6 (.int .i64 n0)).set_ 7 (.int .i64 n1)).set_ 8 (.int .i64 n2)).set_ 9 (.int .i64 n3)).set_ 10 (.int .i64 n4)).set_ 11 (.int .i64 n5)).set_ 12 (.int .i64 n6)).set_ 13 (.int .i64 n7)).set_ 14 (.bool false))
          exact Reg.Gives.skip (w' := (((((((((((((((wi.setCell ⟨w.heap.size + 1 + 1, 0, none⟩ (.int .i64 kn)).setCell ⟨w.heap.size + 1 + 1, 1, none⟩ (.int .i64 0)).setCell ⟨w.heap.size + 1 + 1, 2, none⟩ (.int .i64 0)).setCell ⟨w.heap.size + 1 + 1, 3, none⟩ (.int .i64 0)).setCell ⟨w.heap.size + 1 + 1, 4, none⟩ (.slice none 0 0)).setCell ⟨w.heap.size + 1 + 1, 5, none⟩ (.slice none 0 0)).setCell ⟨w.heap.size + 1 + 1, 6, none⟩ (.int .i64 n0)).setCell ⟨w.heap.size + 1 + 1, 7, none⟩ (.int .i64 n1)).setCell ⟨w.heap.size + 1 + 1, 8, none⟩ (.int .i64 n2)).setCell ⟨w.heap.size + 1 + 1, 9, none⟩ (.int .i64 n3)).setCell ⟨w.heap.size + 1 + 1, 10, none⟩ (.int .i64 n4)).setCell ⟨w.heap.size + 1 + 1, 11, none⟩ (.int .i64 n5)).setCell ⟨w.heap.size + 1 + 1, 12, none⟩ (.int .i64 n6)).setCell ⟨w.heap.size + 1 + 1, 13, none⟩ (.int .i64 n7)).setCell ⟨w.heap.size + 1 + 1, 14, none⟩ (.bool false))) (by go_simp) ⟨trivial, ⟨wi, hI, (only_set (only_set (only_set (only_set (only_set (only_set (only_set (only_set (only_set (only_set (only_set (only_set (only_set (only_set (only_set (Only.refl (fun j => j = w.heap.size + 1 + 1) wi) ⟨w.heap.size + 1 + 1, 0, none⟩ (.int .i64 kn) rfl) ⟨w.heap.size + 1 + 1, 1, none⟩ (.int .i64 0) rfl) ⟨w.heap.size + 1 + 1, 2, none⟩ (.int .i64 0) rfl) ⟨w.heap.size + 1 + 1, 3, none⟩ (.int .i64 0) rfl) ⟨w.heap.size + 1 + 1, 4, none⟩ (.slice none 0 0) rfl) ⟨w.heap.size + 1 + 1, 5, none⟩ (.slice none 0 0) rfl) ⟨w.heap.size + 1 + 1, 6, none⟩ (.int .i64 n0) rfl) ⟨w.heap.size + 1 + 1, 7, none⟩ (.int .i64 n1) rfl) ⟨w.heap.size + 1 + 1, 8, none⟩ (.int .i64 n2) rfl) ⟨w.heap.size + 1 + 1, 9, none⟩ (.int .i64 n3) rfl) ⟨w.heap.size + 1 + 1, 10, none⟩ (.int .i64 n4) rfl) ⟨w.heap.size + 1 + 1, 11, none⟩ (.int .i64 n5) rfl) ⟨w.heap.size + 1 + 1, 12, none⟩ (.int .i64 n6) rfl) ⟨w.heap.size + 1 + 1, 13, none⟩ (.int .i64 n7) rfl) ⟨w.heap.size + 1 + 1, 14, none⟩ (.bool false) rfl), hz⟩, fun j u _ _ h => rRdN_keep h⟩
        · omega
      · intro V w4 hV hI
        simp only [Reg.putsO, List.foldl_cons, List.foldl_nil, Act.put, List.setIfInBounds_toArray, List.set_cons_succ, List.set_cons_zero]
        replace hI : (fun a' => ∃ wb, Below w2.heap.size w2 wb ∧ Only (fun j => j = w.heap.size + 1 + 1) wb a' ∧ Cells a' (w.heap.size + 1 + 1) 39 [.int .i64 kn, .int .i64 0, .int .i64 0, .int .i64 0, .slice none 0 0, .slice none 0 0, .int .i64 n0, .int .i64 n1, .int .i64 n2, .int .i64 n3, .int .i64 n4, .int .i64 n5, .int .i64 n6, .int .i64 n7, .bool false]) w4 := hI
        clear hV
        obtain ⟨w3, hb3, ho3, hc3⟩ := hI
        have HS6 := Lib.hid ((HS5.out.later hb3).put (x' := (⟨kn, ⟨0, 0, 0⟩, [], [], n0, n1, n2, n3, n4, n5, n6, n7, false⟩ : Rc)) ho3 hc3 rfl rfl)
        have HNU4 : Hid (Nums w4 (some ⟨bl, off, none⟩) FLS) := Lib.hid (Nums.only (HNU3.out.later hb3) ho3 fun _ b' off' e hs => by have := HFR.out b' off' e; omega)
        clear hb3 ho3 hc3
        go_wp2_with fail
        go_roundw
        case rel =>
          refine ⟨k + 1, by omega, by go_num, ?_, HNU4.out⟩
          rw [HST1.out]
          exact HS6.out
        case measure => simp [intOf]; omega
    · obtain rfl : k = FL := by omega
      have HTK : Hid (FLS.take k = FLS) := Lib.hid (List.take_of_length_le (by have := HFL.out; omega))
      have HPL := Lib.hid (numN_plain s FLS (t := (rcK kn, pa, pb)) HPL0.out)
      rw [HTK.out] at hst
      obtain ⟨t, ht⟩ : ∃ t, numN s FLS (rcK kn, pa, pb) = t := ⟨_, rfl⟩
      rw [ht] at hst HPL HSIM
      obtain ⟨x, a, b⟩ := t
      simp only at hst HPL HSIM
      have HST := Lib.hid hst
      obtain ⟨xk, xt, xi, xn, a0, a1, a2, a3, a4, a5, a6, a7, xy⟩ := x
      obtain ⟨e1, e2, e3, e4, e5⟩ := HPL.out
      simp only at e1 e2 e3 e4 e5
      obtain rfl : kn = xk := e1.symm
      obtain rfl : (⟨0, 0, 0⟩ : Tid) = xt := e2.symm
      obtain rfl : ([] : List It) = xi := e3.symm
      obtain rfl : ([] : List Int) = xn := e4.symm
      obtain rfl : false = xy := e5.symm
      have c0 := hst.rcd.cell (j := 0) rfl
      have HLM : Hid (([] : List It).length = 0 ∧ ([] : List Int).length = 0) := Lib.hid ⟨rfl, rfl⟩
      obtain ⟨wy, hwy⟩ : ∃ wy, wy = wr := ⟨_, rfl⟩
      subst hwy
      clear hst hnu ht e1 e2 e3 e4 e5
      go_wp2_with fail
      refine (refNamed_any kn wy).mono ?_
      rintro e w' ⟨rfl, rfl⟩
      rw [HNM.out]
      have i1 := HST.out.inn.cell (j := 1) rfl
      have i2 := HST.out.inn.cell (j := 2) rfl
      go_upto_region 38 with (fail)
      go_cut [153] from 136 to 153 (FinOut s w (⟨kn, ⟨0, 0, 0⟩, [], [], a0, a1, a2, a3, a4, a5, a6, a7, false⟩ : Rc) a b lay0)
      case first =>
        cases b with
        | true =>
          have HNO := Lib.hid (HSIM.out.fin.1 rfl)
          go_wp2_with fail
          go_meet
          exact ⟨true, rfl, HST.out, fun _ => HNO.out, fun h => by cases h⟩
        | false =>
          by_cases ha : a = s.size
          · subst ha
            have HF3 := Lib.hid (HSIM.out.fin.2.2 rfl rfl)
            have hcq : Cells wy (w.heap.size + 1 + 1) 39 [.int .i64 kn, .int .i64 0, .int .i64 0, .int .i64 0, .slice none 0 0, .slice none 0 0, .int .i64 a0, .int .i64 a1, .int .i64 a2, .int .i64 a3, .int .i64 a4, .int .i64 a5, .int .i64 a6, .int .i64 a7, .bool false] := by
              have hq := HST.out.rcd
              have hlm := HLM.out
              unfold Rc.vals at hq
              simp only [hlm.1, hlm.2] at hq
              exact hq
            have q0 := hcq.cell (j := 0) rfl
            have q1 := hcq.cell (j := 1) rfl
            have q2 := hcq.cell (j := 2) rfl
            have q3 := hcq.cell (j := 3) rfl
            have q4 := hcq.cell (j := 4) rfl
            have q5 := hcq.cell (j := 5) rfl
            have q6 := hcq.cell (j := 6) rfl
            have q7 := hcq.cell (j := 7) rfl
            have q8 := hcq.cell (j := 8) rfl
            have q9 := hcq.cell (j := 9) rfl
            have q10 := hcq.cell (j := 10) rfl
            have q11 := hcq.cell (j := 11) rfl
            have q12 := hcq.cell (j := 12) rfl
            have q13 := hcq.cell (j := 13) rfl
            have q14 := hcq.cell (j := 14) rfl
            have HRR := Lib.hid (refRight_any (⟨kn, ⟨0, 0, 0⟩, [], [], a0, a1, a2, a3, a4, a5, a6, a7, false⟩ : Rc) lay0 wy HST.out.has (Nat.le_trans HF3.out.2.1.items (by decide)) (Nat.le_trans HF3.out.2.1.nodes (by decide)))
            rw [refRight_eq _ HF3.out.1] at HRR
            have HF4 := Lib.hid HF3.out.2.2
            obtain ⟨rt, hrt⟩ : ∃ rt, right (⟨kn, ⟨0, 0, 0⟩, [], [], a0, a1, a2, a3, a4, a5, a6, a7, false⟩ : Rc) = rt := ⟨_, rfl⟩
            rw [hrt] at HRR HF4
            clear hrt HF3 hcq
            have hlm := HLM.out
            unfold Rc.val at HRR
            simp only [hlm.1, hlm.2] at HRR
            clear hlm
            go_wp2_with fail
            refine HRR.out.mono ?_
            rintro e wz ⟨rfl, hbz⟩
            have HEND := Lib.hid (HST.out.later hbz)
            clear hbz
            go_wp2_with fail
            go_meet
            exact ⟨!rt, rfl, HEND.out, fun h => by rw [HF4.out, if_neg (by intro h2; rw [h2] at h; cases h)], fun h => by rw [HF4.out, if_pos (by simpa using h)]⟩
          · have HNO := Lib.hid (HSIM.out.fin.2.1 rfl ha)
            have e1 : ((a : Int) == (s.size : Int)) = false := by simp; omega
            have e2 : ((a : Int) != (s.size : Int)) = true := by simp; omega
            clear ha
            go_wp2_with fail
            go_meet
            exact ⟨true, rfl, HST.out, fun _ => HNO.out, fun h => by cases h⟩
      case rest =>
        obtain ⟨o, rfl, hst, hno, hyes⟩ := hcut
        obtain ⟨wz, hwz⟩ : ∃ wz, wz = wc := ⟨_, rfl⟩
        rw [← hwz] at hst ⊢
        have HEND := Lib.hid hst
        have HNY := Lib.hid (And.intro hno hyes)
        clear hst hno hyes hwz i1 i2
        cases o with
        | true =>
          have HNO := Lib.hid (HFIN0.out.1 (HNY.out.1 rfl))
          go_upto_region 39 with (fail)
          apply wp_region_lit
          refine wpList_buildTo rfl 39 _ rfl (some 154) rfl #[.int .i64 0, .int .i64 0, .int .i64 0, .int .i64 0, .slice none 0 0, .slice none 0 0, .int .i64 0, .int .i64 0, .int .i64 0, .int .i64 0, .int .i64 0, .int .i64 0, .int .i64 0, .int .i64 0, .bool false] (by kernel_rfl) ?_
          refine wpList_store_cells rfl 39 _ _ rfl w.heap.size #[.int .i64 0, .int .i64 0, .int .i64 0, .int .i64 0, .slice none 0 0, .slice none 0 0, .int .i64 0, .int .i64 0, .int .i64 0, .int .i64 0, .int .i64 0, .int .i64 0, .int .i64 0, .int .i64 0, .bool false] [.int .i64 0, .int .i64 0, .int .i64 0, .int .i64 0, .slice none 0 0, .slice none 0 0, .int .i64 0, .int .i64 0, .int .i64 0, .int .i64 0, .int .i64 0, .int .i64 0, .int .i64 0, .int .i64 0, .bool false] rfl rfl rfl HEND.out.res rfl (by kernel_rfl) (by kernel_rfl) fun wv hpt hov => ?_
          have HPT := Lib.hid hpt
          have HO := Lib.hid (HEND.out.ended hov)
          clear hpt hov
          go_wp2_with fail
          refine bodyPost_ret (v := .tuple #[.agg #[.int .i64 0, .int .i64 0, .int .i64 0, .int .i64 0, .slice none 0 0, .slice none 0 0, .int .i64 0, .int .i64 0, .int .i64 0, .int .i64 0, .int .i64 0, .int .i64 0, .int .i64 0, .int .i64 0, .bool false], .bool false]) ?_ rfl ?_
          · exact (ret_cell_tmp (p := 2) (q := 3) (ty := 39) (by rfl) _ HPT.out _ (by rfl) Try.underlying39 rfl (by kernel_rfl)).trans (by rfl)
          · exact ⟨⟨lay0, by rw [HNO.out.1, HNO.out.2]; rfl, by rw [HNO.out.1]; exact has0 _⟩, HO.out.2⟩
        | false =>
          have HNO := Lib.hid (HFIN0.out.2 _ (HNY.out.2 rfl))
          have hcq : Cells wz (w.heap.size + 1 + 1) 39 [.int .i64 kn, .int .i64 0, .int .i64 0, .int .i64 0, .slice none 0 0, .slice none 0 0, .int .i64 a0, .int .i64 a1, .int .i64 a2, .int .i64 a3, .int .i64 a4, .int .i64 a5, .int .i64 a6, .int .i64 a7, .bool false] := by
            have hq := HEND.out.rcd
            have hlm := HLM.out
            unfold Rc.vals at hq
            simp only [hlm.1, hlm.2] at hq
            exact hq
          have HCQ := Lib.hid hcq
          clear hcq
          go_upto_region 40 with (fail)
          apply wp_region_lit
          refine wpList_load_cells rfl 39 _ rfl (w.heap.size + 1 + 1) #[.int .i64 kn, .int .i64 0, .int .i64 0, .int .i64 0, .slice none 0 0, .slice none 0 0, .int .i64 a0, .int .i64 a1, .int .i64 a2, .int .i64 a3, .int .i64 a4, .int .i64 a5, .int .i64 a6, .int .i64 a7, .bool false] rfl rfl HCQ.out Try.underlying39 rfl (by kernel_rfl) ?_
          refine wpList_store_cells rfl 39 _ _ rfl w.heap.size #[.int .i64 kn, .int .i64 0, .int .i64 0, .int .i64 0, .slice none 0 0, .slice none 0 0, .int .i64 a0, .int .i64 a1, .int .i64 a2, .int .i64 a3, .int .i64 a4, .int .i64 a5, .int .i64 a6, .int .i64 a7, .bool false] [.int .i64 kn, .int .i64 0, .int .i64 0, .int .i64 0, .slice none 0 0, .slice none 0 0, .int .i64 a0, .int .i64 a1, .int .i64 a2, .int .i64 a3, .int .i64 a4, .int .i64 a5, .int .i64 a6, .int .i64 a7, .bool false] rfl rfl rfl HEND.out.res rfl (by kernel_rfl) (by kernel_rfl) fun wv hpt hov => ?_
          have HPT := Lib.hid hpt
          have HO := Lib.hid (HEND.out.ended hov)
          clear hpt hov
          go_wp2_with fail
          refine bodyPost_ret (v := .tuple #[.agg #[.int .i64 kn, .int .i64 0, .int .i64 0, .int .i64 0, .slice none 0 0, .slice none 0 0, .int .i64 a0, .int .i64 a1, .int .i64 a2, .int .i64 a3, .int .i64 a4, .int .i64 a5, .int .i64 a6, .int .i64 a7, .bool false], .bool true]) ?_ rfl ?_
          · exact (ret_cell_tmp (p := 2) (q := 3) (ty := 39) (by rfl) _ HPT.out _ (by rfl) Try.underlying39 rfl (by kernel_rfl)).trans (by rfl)
          · exact ⟨⟨lay0, by rw [HNO.out.1, HNO.out.2]; unfold Rc.val; simp only [HLM.out.1, HLM.out.2, lay0], by rw [HNO.out.1]; exact HO.out.1⟩, HO.out.2⟩
end Go.Proofs.Ytdmekfeggdodnaa.Rec
