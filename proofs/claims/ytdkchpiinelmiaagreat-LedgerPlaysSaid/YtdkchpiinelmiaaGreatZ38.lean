/- Part 38 of the proof. Conditions: none. -/
import Derived.Test.YtdkchpiinelmiaaGreatZ17
import Derived.Deep.CutBlock
namespace Go.Proofs.YtdkchpiinelmiaaGreat.Led
set_option maxRecDepth 100000
open Go.RowKit Go.Deep Mem fN Rec
theorem qQ {P : Program} {ρ : Operand -> Value} {o : Oper} (op : BinOp) (t : TypeId) (x y : Operand) (t2 : TypeId) (ho : o.op = .binOp op t x y t2) (xs ys : Array Value) (hx : ρ x = .agg xs) (hy : ρ y = .agg ys) {v : Value} {w : World} (hm : P.eqGuardType P.depth t = false)
  (hrun : (binOp op t (.agg xs) (.agg ys)).run P w = .ok v w) : (execOp ρ o).run P w = .ok (.value v) w := by
 unfold execOp; simp only [ho, hx, hy, Sem.run_bind, Sem.run_pure, Result.andThen_ok, run_eqGuard_agg w op t x y xs ys hm, hrun]
theorem vw (c n : Int) (w : World) (hn : n <= 1000000000) (hc : c <= 1000000000) : Calls Tryz.prog 18 #[iv c, iv n] w fun e w' => e = .returned (iv (home c n)) /\ w = w' := by
 unfold home
 by_cases h1 : n < 1
 ·rw [if_pos (Or.inl h1)]
  go_enter Tryz.func18, Tryz.ntmps18
  go_wp2_with fail
  go_returns
  exact ⟨rfl, rfl⟩
 by_cases h2 : c < 0
 ·rw [if_pos (Or.inr h2)]
  go_enter Tryz.func18, Tryz.ntmps18
  go_wp2_with fail
  go_returns
  exact ⟨rfl, rfl⟩
 rw [if_neg (by omega)]
 obtain ⟨q, hq⟩ := ah (Int.tdiv c n); have hq1 : q = c / n := by rw [<- hq]; exact Int.tdiv_eq_ediv_of_nonneg (by omega)
 have hd : q * n = c - c % n := by
  rw [hq1, Int.mul_comm]; have := Int.mul_ediv_add_emod c n
  omega
 have h3 : 0 <= c % n := Int.emod_nonneg _ (by omega); have h4 : c % n < n := Int.emod_lt_of_pos _ (by omega); have h5 : 0 <= q := by rw [hq1]; exact Int.ediv_nonneg (by omega) (by omega)
 have h6 : q <= c := by rw [hq1]; exact Int.ediv_le_self _ (by omega)
 have w1 : IntKind.i64.wrap q = q := by rw [IntKind.wrap_i64]; omega
 have w2 : IntKind.i64.wrap (q * n) = c - c % n := by rw [hd, IntKind.wrap_i64]; omega
 have w3 : IntKind.i64.wrap (c - (c - c % n)) = c % n := by rw [show c - (c - c % n) = c % n by omega, IntKind.wrap_i64]; omega
 have w4 : IntKind.i64.wrap (c % n + 1) = c % n + 1 := by rw [IntKind.wrap_i64]; omega
 have hn0 : ¬ n = 0 := by omega
 clear hd hq1
 go_enter Tryz.func18, Tryz.ntmps18
 go_wp2_with fail
 go_returns
 exact ⟨rfl, rfl⟩
set_option maxHeartbeats 400000 in
theorem vr (s : St) (y : Sy) (c : Int) (w : World) (h : cL w s y) :
  Calls Tryz.prog 14 #[s.val y, iv c] w fun e w' => e = .returned (.bool (owns s c)) /\ Below w.heap.size w w' := by
 obtain ⟨wa, cM⟩ := aj (w.alloc (.cells (s.vals y).toArray 41)); have hba : Below w.heap.size w wa := by rw [cM]; exact av _ _
 have hca : Cells wa w.heap.size 41 (s.vals y) := by rw [cM]; exact aB _ _ _ _ rfl
 have c4 := hca.cell (j := 4) rfl; have HB := ak hba; have HS := ak (h.later hba); unfold owns bp; unfold St.vals at cM; unfold St.val; obtain ⟨n, hn⟩ := ah s.places.length; rw [hn] at c4 cM ⊢
 by_cases h0 : 0 <= c
 ·by_cases h1 : c < (n : Int)
  ·obtain ⟨k, rfl⟩ := Int.eq_ofNat_of_zero_le h0
   have hk : k < s.places.length := by omega
   obtain ⟨b, off, hA, hp, _⟩ := ig HS.o.places hk; rw [kB s hk]; obtain ⟨st, hst⟩ := ah (s.places[k].status); rw [hst] at hp ⊢; rw [hA] at c4 cM ⊢; have d0 : decide (0 <= ((k : Nat) : Int)) = true := by simp
   have d1 : decide (((k : Nat) : Int) < (n : Int)) = true := by simpa using h1
   have hk2 : k < n := by omega
   rw [d0, d1, Bool.true_and, Bool.true_and]; clear h hba hca hst hn d0 d1
   go_enter Tryz.func14, Tryz.ntmps14
   go_upto_region 1 with (fail)
   rw [<- cM]; clear cM
   go_wp2_with fail
   go_returns
   exact ⟨rfl, HB.o⟩
  have d1 : decide (c < (n : Int)) = false := by simpa using h1
  rw [d1, Bool.and_false, Bool.false_and]; clear h hba hca hn d1
  go_enter Tryz.func14, Tryz.ntmps14
  go_upto_region 1 with (fail)
  rw [<- cM]; clear cM
  go_wp2_with fail
  go_returns
  exact ⟨rfl, HB.o⟩
 have d0 : decide (0 <= c) = false := by simpa using h0
 rw [d0, Bool.false_and, Bool.false_and]; clear h hba hca hn d0
 go_enter Tryz.func14, Tryz.ntmps14
 go_upto_region 1 with (fail)
 rw [<- cM]; clear cM
 go_wp2_with fail
 go_returns
 exact ⟨rfl, HB.o⟩
def lI (s : St) (u : cT) : Int := if u.node > s.nodes then 1 else if (s.ay.length : Int) + (s.dec.length : Int) >= 512 then 6 else 0
theorem u_ (s : St) (y : Sy) (u : cT) (w : World) (h1 : s.ay.length <= 1000000) (h2 : s.dec.length <= 1000000) :
  Calls Tryz.prog 35 #[s.val y, u.val] w fun e w' => e = .returned (iv (lI s u)) /\ Below w.heap.size w w' := by
 obtain ⟨wa, cM⟩ := aj (w.alloc (.cells (s.vals y).toArray 41)); have hba : Below w.heap.size w wa := by rw [cM]; exact av _ _
 have hca : Cells wa w.heap.size 41 (s.vals y) := by rw [cM]; exact aB _ _ _ _ rfl
 have hsz : wa.heap.size = w.heap.size + 1 := by rw [cM]; exact World.size_alloc _ _
 obtain ⟨wb, hwb⟩ := aj (wa.alloc (.cells #[iv u.node, iv u.epoch, iv u.seq] 47)); have hbb : Below wa.heap.size wa wb := by rw [hwb]; exact av _ _
 have hcb : Cells wb wa.heap.size 47 [iv u.node, iv u.epoch, iv u.seq] := by rw [hwb]; exact aB _ _ _ _ rfl
 rw [hsz] at hcb; have zL := hca.later hbb; have c1 := zL.cell (j := 1) rfl; have c5 := zL.cell (j := 5) rfl; have c6 := zL.cell (j := 6) rfl; have u0 := hcb.cell (j := 0) rfl; have HB := ak (hba.trans (hbb.mono hba.size)); unfold St.vals at cM; unfold St.val cT.val lI; obtain ⟨n1, hn1⟩ := ah s.ay.length; obtain ⟨n2, hn2⟩ := ah s.dec.length; rw [hn1] at c5 cM h1 ⊢; rw [hn2] at c6 cM h2 ⊢; clear hba hca hbb hcb zL hsz hn1 hn2
 by_cases hg : u.node > s.nodes
 ·rw [if_pos hg]
  go_enter Tryz.func35, Tryz.ntmps35
  go_upto_region 1 with (fail)
  rw [<- cM, <- hwb]; clear cM hwb
  go_wp2_with fail
  go_returns
  exact ⟨rfl, HB.o⟩
 rw [if_neg hg]
 by_cases hf : (n1 : Int) + (n2 : Int) >= 512
 ·rw [if_pos hf]
  go_enter Tryz.func35, Tryz.ntmps35
  go_upto_region 1 with (fail)
  rw [<- cM, <- hwb]; clear cM hwb
  go_wp2_with fail
  go_returns
  exact ⟨rfl, HB.o⟩
 rw [if_neg hf]
 go_enter Tryz.func35, Tryz.ntmps35
 go_upto_region 1 with (fail)
 rw [<- cM, <- hwb]; clear cM hwb
 go_wp2_with fail
 go_returns
 exact ⟨rfl, HB.o⟩
theorem vR (a b c x y z : Int) (w : World) : (binOp .eql 47 (.agg #[iv a, iv b, iv c]) (.agg #[iv x, iv y, iv z])).run Tryz.prog w = .ok (.bool (decide (a = x) && decide (b = y) && decide (c = z))) w := by
 have e : Tryz.prog.underlying 47 = some (.struct (Tryz.prog.fieldsOf 47)) := by kernel_rfl
 have e2 : Tryz.prog.stoodInHeld 47 = false := by kernel_rfl
 rw [run_eql_struct, run_equalIn_agg w _ _ _ _ e e2]; obtain ⟨f0, f1, f2, hf, t0, t1, t2, o0, o1, o2, n0, n1, n2⟩ : ∃ f0 f1 f2 : Field, (Tryz.prog.fieldsOf 47).toList = [f0, f1, f2] /\ f0.type = 3 /\ f1.type = 3 /\ f2.type = 3 /\ f0.offset = 0 /\ f1.offset = 1 /\ f2.offset = 2 /\ f0.name ≠ "_" /\ f1.name ≠ "_" /\ f2.name ≠ "_" := ⟨_, _, _, rfl, rfl, rfl, rfl, rfl, rfl, rfl, by decide, by decide, by decide⟩; rw [hf]; have hu := Tryz.underlying3
 by_cases ha : a = x
 ·by_cases hb : b = y
  ·by_cases hc : c = z
   ·simp [Op.eqFields, n0, n1, n2, t0, t1, t2, o0, o1, o2, go_sem, hu, ha, hb, hc]
   simp [Op.eqFields, n0, n1, n2, t0, t1, t2, o0, o1, o2, go_sem, hu, ha, hb, hc]
  simp [Op.eqFields, n0, n1, n2, t0, t1, t2, o0, o1, o2, go_sem, hu, ha, hb]
 simp [Op.eqFields, n0, n1, n2, t0, t1, t2, o0, o1, o2, go_sem, hu, ha]
theorem vS (t u : cT) : decide (t = u) = (decide (t.node = u.node) && decide (t.epoch = u.epoch) && decide (t.seq = u.seq)) := by
 obtain ⟨a, b, c⟩ := t; obtain ⟨x, y, z⟩ := u
 by_cases h1 : a = x <;> by_cases h2 : b = y <;> by_cases h3 : c = z <;> simp [h1, h2, h3]
def Ii (g2 b off n cc ii : Nat) (tu u : cT) (an : Bool) : Nat -> Value -> World -> Prop := N.tb [.inl (.pointer (some ⟨g2, 5, none⟩)), .inl (.slice (some ⟨b, off, none⟩) n cc), .inl (.int .i64 (ii : Int)), .inl (.pointer (some ⟨b, off + ii * 5, none⟩)), .inl (.pointer (some ⟨b, off + ii * 5, none⟩)), .inl (.agg #[.int .i64 tu.node, .int .i64 tu.epoch, .int .i64 tu.seq]), .inl (.agg #[.int .i64 u.node, .int .i64 u.epoch, .int .i64 u.seq]), .inl (.bool an)]
set_option maxHeartbeats 1000000 in
theorem gF (s : St) (y : Sy) (u : cT) (w : World) (h : cL w s y) (hl : s.ay.length <= 1000000) :
  Calls Tryz.prog 20 #[s.val y, u.val] w fun e w' => e = .returned (iv (bQ s u)) /\ Below w.heap.size w w' := by
 obtain ⟨wa, cM⟩ := aj (w.alloc (.cells (s.vals y).toArray 41)); have hba : Below w.heap.size w wa := by rw [cM]; exact av _ _
 have hca : Cells wa w.heap.size 41 (s.vals y) := by rw [cM]; exact aB _ _ _ _ rfl
 have hsz : wa.heap.size = w.heap.size + 1 := by rw [cM]; exact World.size_alloc _ _
 obtain ⟨wb, hwb⟩ := aj (wa.alloc (.cells #[iv u.node, iv u.epoch, iv u.seq] 47)); have hbb : Below wa.heap.size wa wb := by rw [hwb]; exact av _ _
 have hcb : Cells wb wa.heap.size 47 [iv u.node, iv u.epoch, iv u.seq] := by rw [hwb]; exact aB _ _ _ _ rfl
 rw [hsz] at hcb; have hB := hba.trans (hbb.mono hba.size); have HB := ak hB; have HC := ak (hca.later hbb); have HU := ak hcb; have HS := ak (h.later hB).ay; have HL : Hid ((List.zipWith Pr.vals s.ay y.ps).length = s.ay.length) := ak (by rw [List.length_zipWith, h.ps]; omega); obtain ⟨F, hF⟩ := ah (bQ s u); have HF := ak hF; rw [hF]; obtain ⟨n, hn⟩ := ah s.ay.length; have HN := ak hn; rw [hn] at hl; have F6 : Hid (∀ k (hk : k < s.ay.length), ∃ b off, y.Q = some ⟨b, off, none⟩ /\ wb.rangeAt b (off + k * 5) [iv s.ay[k].tid.node, iv s.ay[k].tid.epoch, iv s.ay[k].tid.seq]) := ak fun k hk => by
  obtain ⟨b, off, e, hr⟩ := HS.o k (by rw [HL.o]; exact hk); refine ⟨b, off, e, fun j v hv => hr j v ?_⟩; have hj : j < 3 := (List.getElem?_eq_some_iff.1 hv).1; rw [List.getElem_zipWith]
  match j, hj with
  | 0, _ | 1, _ | 2, _ => exact hv
 clear h hF hba hbb hca hcb hsz hB; unfold St.vals at cM; unfold St.val cT.val; rw [hn] at cM ⊢; clear hn
 go_enter Tryz.func20, Tryz.ntmps20
 go_upto_region 1 with (fail)
 rw [<- cM, <- hwb]; clear cM hwb
 go_wp2_with fail
 go_loopw [5] (fun i wr => ∃ ii : Nat, ii <= n /\ i = iv (ii : Int) /\ Hid (∀ j (hj : j < s.ay.length), j < ii -> s.ay[j].tid ≠ u) /\ Hid (Below wb.heap.size wb wr)) (fun i _ => n - (intOf i).toNat)
 case atStart => exact ⟨0, Nat.zero_le _, rfl, ak (fun j _ hj => absurd hj (by omega)), ak (Below.refl _ _)⟩
 case round =>
  obtain ⟨ii, Ui, rfl, HD, dA⟩ := hrel; have hcr := HC.o.later dA.o; have c5 := hcr.cell (j := 5) rfl; rw [HN.o] at c5
  by_cases hlt : ii < n
  ·have hil : ii < s.ay.length := by rw [HN.o]; exact hlt
   obtain ⟨b, off, hA, hr⟩ := F6.o ii hil; obtain ⟨tu, htu⟩ := ah (s.ay[ii].tid); rw [htu] at hr; have jt : Hid (∀ wi, Below wr.heap.size wr wi -> wi.cell? ⟨w.heap.size, 5, none⟩ = some (.slice (some ⟨b, off, none⟩) n y.q)) := ak fun wi hb => by
    have h1 := (hcr.later hb).cell (j := 5) rfl; rw [HN.o, hA] at h1; exact h1
   have mS : Hid (∀ wi, Below wr.heap.size wr wi -> wi.rangeAt b (off + ii * 5) [iv tu.node, iv tu.epoch, iv tu.seq]) := ak fun wi hb => aM (aM hr dA.o) hb
   have tX : Hid (∀ wi, Below wr.heap.size wr wi -> Cells wi (w.heap.size + 1) 47 [iv u.node, iv u.epoch, iv u.seq]) := ak fun wi hb => (HU.o.later dA.o).later hb
   have HI := ak hlt; obtain ⟨an, han⟩ : ∃ x, decide (tu = u) = x := ⟨_, rfl⟩; have FH := ak han; have zn : Hid (∀ wi, (binOp .eql 47 (.agg #[iv tu.node, iv tu.epoch, iv tu.seq]) (.agg #[iv u.node, iv u.epoch, iv u.seq])).run Tryz.prog wi = .ok (.bool an) wi) := ak fun wi => by
    have h1 := vR tu.node tu.epoch tu.seq u.node u.epoch u.seq wi; rw [<- vS, han] at h1; exact h1
   have HE : Hid (an = true -> F = (ii : Int)) := ak fun e => by
    rw [<- HF.o]; unfold bQ; refine gW (by rw [List.length_map]; exact hil) (fun j hj => ?_) ?_
    ·rw [List.getElem_map]
     exact decide_eq_false (HD.o j (by omega) hj)
    rw [List.getElem_map, htu, han, e]
   have iu : Hid (an = false -> ∀ j (hj : j < s.ay.length), j < ii + 1 -> s.ay[j].tid ≠ u) := ak fun e j hj hji => by
    by_cases e2 : j = ii
    ·subst e2
     rw [htu]; exact of_decide_eq_false (han.trans e)
    exact HD.o j hj (by omega)
   have DU := ak (show wr.cell? ⟨w.heap.size, 5, none⟩ = some (.slice (some ⟨b, off, none⟩) n y.q) from jt.o wr (Below.refl _ _))
   clear c5 hcr hil hr htu han; rw [hA] at *; have c5 := DU.o
   go_upto_region 4 with (fail)
   clear c5; refine N.rb 7 [7] (Ii w.heap.size b off n y.q ii tu u an) wr (fun V => [(some 13, V 0), (some 14, V 1), (some 15, V 2), (some 16, V 3), (some 17, V 4), (some 18, V 5), (some 19, V 6), (some 20, V 7)]) ?_ ?_
   ·intro i o ho
    have hi : i < 8 := (Array.getElem?_eq_some_iff.1 ho).1; rcases i with _ | _ | _ | _ | _ | _ | _ | _ | i
    rotate_right
    ·omega
    all_goals obtain rfl := Option.some.inj ho
    all_goals intro ρ wi hE hI hs hd
    all_goals try dsimp only at hI
    ·have e2 : ρ (.tmp 2) = (au w.heap.size) := hs 2; exact N.gw hI
    ·obtain ⟨_, rfl, l5⟩ := hd 0 13; have x0 := jt.o _ hI; exact N.gw hI
    ·have e5 : ρ (.tmp 5) = iv (ii : Int) := hs 5; exact N.gw hI
    ·obtain ⟨_, rfl, mZ⟩ := hd 1 14; obtain ⟨_, rfl, mY⟩ := hd 2 15
     have z1 : (0 : Int) <= (ii : Int) := by omega
     have z2 : (ii : Int) < (n : Int) := by have := HI.o; omega
     have z3 : ii < n := HI.o; exact N.gw hI
    ·obtain ⟨_, rfl, e16⟩ := hd 3 16; exact N.gw hI
    ·obtain ⟨_, rfl, e17⟩ := hd 4 17; have q0 := mS.o _ hI 0 _ rfl
     rw [Nat.add_zero] at q0; have q1 := mS.o _ hI 1 _ rfl; have q2 := mS.o _ hI 2 _ rfl; exact N.gw hI
    ·have e3 : ρ (.tmp 3) = (au ((w.heap.size + 1))) := hs 3; have hq := tX.o _ hI; obtain ⟨q0, q1, q2⟩ := hq.q3; exact N.gw hI
    obtain ⟨_, rfl, e18⟩ := hd 5 18; obtain ⟨_, rfl, e19⟩ := hd 6 19
    exact N.Gives.value (v := .bool an) (w' := wi) (qQ .eql 47 _ _ _ rfl _ _ e18 e19 (by kernel_rfl) (zn.o wi)) (N.bA.same hI rfl)
   intro V wf hV hI
   have jr : V 7 = .bool an := hV 7 (by decide) rfl; simp only [N.aP, List.foldl_cons, List.foldl_nil, Act.put, List.setIfInBounds_toArray, List.set_cons_succ, List.set_cons_zero, jr]; replace hI : (fun a => Below wr.heap.size wr a) wf := hI; clear hV jr; have jM := ak (dA.o.trans (hI.mono dA.o.size)); clear hI jt mS tX zn
   cases an with
   | true =>
    have HV := ak (HE.o rfl)
    go_wp2_with fail
    go_returns
    exact ⟨aL HV.o.symm, HB.o.trans (jM.o.mono HB.o.size)⟩
   | false =>
    have jL := ak (iu.o rfl)
    go_wp2_with fail
    go_roundw
    case rel => exact ⟨ii + 1, by omega, by go_num, jL, jM⟩
    case measure => simp [intOf]; omega
  obtain rfl : ii = n := by omega
  have HV : Hid (F = -1) := ak (by
   rw [<- HF.o]; unfold bQ; refine eP fun j hj => ?_
   rw [List.length_map] at hj; rw [List.getElem_map]; exact decide_eq_false (HD.o j hj (by have := HN.o; omega)))
  go_wp2_with fail
  go_returns
  exact ⟨aL HV.o.symm, HB.o.trans (dA.o.mono HB.o.size)⟩
def Ka (g2 b off n cc ii : Nat) (tu u : cT) (an : Bool) : Nat -> Value -> World -> Prop := N.tb [.inl (.pointer (some ⟨g2, 6, none⟩)), .inl (.slice (some ⟨b, off, none⟩) n cc), .inl (.int .i64 (ii : Int)), .inl (.pointer (some ⟨b, off + ii * 4, none⟩)), .inl (.pointer (some ⟨b, off + ii * 4, none⟩)), .inl (.agg #[.int .i64 tu.node, .int .i64 tu.epoch, .int .i64 tu.seq]), .inl (.agg #[.int .i64 u.node, .int .i64 u.epoch, .int .i64 u.seq]), .inl (.bool an)]
set_option maxHeartbeats 1000000 in
theorem jK (s : St) (y : Sy) (u : cT) (w : World) (h : cL w s y) (hl : s.dec.length <= 1000000) :
  Calls Tryz.prog 22 #[s.val y, u.val] w fun e w' => e = .returned (iv (dJ s u)) /\ Below w.heap.size w w' := by
 obtain ⟨wa, cM⟩ := aj (w.alloc (.cells (s.vals y).toArray 41)); have hba : Below w.heap.size w wa := by rw [cM]; exact av _ _
 have hca : Cells wa w.heap.size 41 (s.vals y) := by rw [cM]; exact aB _ _ _ _ rfl
 have hsz : wa.heap.size = w.heap.size + 1 := by rw [cM]; exact World.size_alloc _ _
 obtain ⟨wb, hwb⟩ := aj (wa.alloc (.cells #[iv u.node, iv u.epoch, iv u.seq] 47)); have hbb : Below wa.heap.size wa wb := by rw [hwb]; exact av _ _
 have hcb : Cells wb wa.heap.size 47 [iv u.node, iv u.epoch, iv u.seq] := by rw [hwb]; exact aB _ _ _ _ rfl
 rw [hsz] at hcb; have hB := hba.trans (hbb.mono hba.size); have HB := ak hB; have HC := ak (hca.later hbb); have HU := ak hcb; have HS := ak (h.later hB).dec; have HL : Hid ((s.dec.map De.vals).length = s.dec.length) := ak (by rw [List.length_map]); obtain ⟨F, hF⟩ := ah (dJ s u); have HF := ak hF; rw [hF]; obtain ⟨n, hn⟩ := ah s.dec.length; have HN := ak hn; rw [hn] at hl; have F6 : Hid (∀ k (hk : k < s.dec.length), ∃ b off, y.D = some ⟨b, off, none⟩ /\ wb.rangeAt b (off + k * 4) [iv s.dec[k].tid.node, iv s.dec[k].tid.epoch, iv s.dec[k].tid.seq]) := ak fun k hk => by
  obtain ⟨b, off, e, hr⟩ := HS.o k (by rw [HL.o]; exact hk); refine ⟨b, off, e, fun j v hv => hr j v ?_⟩; have hj : j < 3 := (List.getElem?_eq_some_iff.1 hv).1; rw [List.getElem_map]
  match j, hj with
  | 0, _ | 1, _ | 2, _ => exact hv
 clear h hF hba hbb hca hcb hsz hB; unfold St.vals at cM; unfold St.val cT.val; rw [hn] at cM ⊢; clear hn
 go_enter Tryz.func22, Tryz.ntmps22
 go_upto_region 1 with (fail)
 rw [<- cM, <- hwb]; clear cM hwb
 go_wp2_with fail
 go_loopw [5] (fun i wr => ∃ ii : Nat, ii <= n /\ i = iv (ii : Int) /\ Hid (∀ j (hj : j < s.dec.length), j < ii -> s.dec[j].tid ≠ u) /\ Hid (Below wb.heap.size wb wr)) (fun i _ => n - (intOf i).toNat)
 case atStart => exact ⟨0, Nat.zero_le _, rfl, ak (fun j _ hj => absurd hj (by omega)), ak (Below.refl _ _)⟩
 case round =>
  obtain ⟨ii, Ui, rfl, HD, dA⟩ := hrel; have hcr := HC.o.later dA.o; have c5 := hcr.cell (j := 6) rfl; rw [HN.o] at c5
  by_cases hlt : ii < n
  ·have hil : ii < s.dec.length := by rw [HN.o]; exact hlt
   obtain ⟨b, off, hA, hr⟩ := F6.o ii hil; obtain ⟨tu, htu⟩ := ah (s.dec[ii].tid); rw [htu] at hr; have jt : Hid (∀ wi, Below wr.heap.size wr wi -> wi.cell? ⟨w.heap.size, 6, none⟩ = some (.slice (some ⟨b, off, none⟩) n y.d)) := ak fun wi hb => by
    have h1 := (hcr.later hb).cell (j := 6) rfl; rw [HN.o, hA] at h1; exact h1
   have mS : Hid (∀ wi, Below wr.heap.size wr wi -> wi.rangeAt b (off + ii * 4) [iv tu.node, iv tu.epoch, iv tu.seq]) := ak fun wi hb => aM (aM hr dA.o) hb
   have tX : Hid (∀ wi, Below wr.heap.size wr wi -> Cells wi (w.heap.size + 1) 47 [iv u.node, iv u.epoch, iv u.seq]) := ak fun wi hb => (HU.o.later dA.o).later hb
   have HI := ak hlt; obtain ⟨an, han⟩ : ∃ x, decide (tu = u) = x := ⟨_, rfl⟩; have FH := ak han; have zn : Hid (∀ wi, (binOp .eql 47 (.agg #[iv tu.node, iv tu.epoch, iv tu.seq]) (.agg #[iv u.node, iv u.epoch, iv u.seq])).run Tryz.prog wi = .ok (.bool an) wi) := ak fun wi => by
    have h1 := vR tu.node tu.epoch tu.seq u.node u.epoch u.seq wi; rw [<- vS, han] at h1; exact h1
   have HE : Hid (an = true -> F = (ii : Int)) := ak fun e => by
    rw [<- HF.o]; unfold dJ; refine gW (by rw [List.length_map]; exact hil) (fun j hj => ?_) ?_
    ·rw [List.getElem_map]
     exact decide_eq_false (HD.o j (by omega) hj)
    rw [List.getElem_map, htu, han, e]
   have iu : Hid (an = false -> ∀ j (hj : j < s.dec.length), j < ii + 1 -> s.dec[j].tid ≠ u) := ak fun e j hj hji => by
    by_cases e2 : j = ii
    ·subst e2
     rw [htu]; exact of_decide_eq_false (han.trans e)
    exact HD.o j hj (by omega)
   have DU := ak (show wr.cell? ⟨w.heap.size, 6, none⟩ = some (.slice (some ⟨b, off, none⟩) n y.d) from jt.o wr (Below.refl _ _))
   clear c5 hcr hil hr htu han; rw [hA] at *; have c5 := DU.o
   go_upto_region 4 with (fail)
   clear c5; refine N.rb 7 [7] (Ka w.heap.size b off n y.d ii tu u an) wr (fun V => [(some 13, V 0), (some 14, V 1), (some 15, V 2), (some 16, V 3), (some 17, V 4), (some 18, V 5), (some 19, V 6), (some 20, V 7)]) ?_ ?_
   ·intro i o ho
    have hi : i < 8 := (Array.getElem?_eq_some_iff.1 ho).1; rcases i with _ | _ | _ | _ | _ | _ | _ | _ | i
    rotate_right
    ·omega
    all_goals obtain rfl := Option.some.inj ho
    all_goals intro ρ wi hE hI hs hd
    all_goals try dsimp only at hI
    ·have e2 : ρ (.tmp 2) = (au w.heap.size) := hs 2; exact N.gw hI
    ·obtain ⟨_, rfl, l5⟩ := hd 0 13; have x0 := jt.o _ hI; exact N.gw hI
    ·have e5 : ρ (.tmp 5) = iv (ii : Int) := hs 5; exact N.gw hI
    ·obtain ⟨_, rfl, mZ⟩ := hd 1 14; obtain ⟨_, rfl, mY⟩ := hd 2 15
     have z1 : (0 : Int) <= (ii : Int) := by omega
     have z2 : (ii : Int) < (n : Int) := by have := HI.o; omega
     have z3 : ii < n := HI.o; exact N.gw hI
    ·obtain ⟨_, rfl, e16⟩ := hd 3 16; exact N.gw hI
    ·obtain ⟨_, rfl, e17⟩ := hd 4 17; have q0 := mS.o _ hI 0 _ rfl
     rw [Nat.add_zero] at q0; have q1 := mS.o _ hI 1 _ rfl; have q2 := mS.o _ hI 2 _ rfl; exact N.gw hI
    ·have e3 : ρ (.tmp 3) = (au ((w.heap.size + 1))) := hs 3; have hq := tX.o _ hI; obtain ⟨q0, q1, q2⟩ := hq.q3; exact N.gw hI
    obtain ⟨_, rfl, e18⟩ := hd 5 18; obtain ⟨_, rfl, e19⟩ := hd 6 19
    exact N.Gives.value (v := .bool an) (w' := wi) (qQ .eql 47 _ _ _ rfl _ _ e18 e19 (by kernel_rfl) (zn.o wi)) (N.bA.same hI rfl)
   intro V wf hV hI
   have jr : V 7 = .bool an := hV 7 (by decide) rfl; simp only [N.aP, List.foldl_cons, List.foldl_nil, Act.put, List.setIfInBounds_toArray, List.set_cons_succ, List.set_cons_zero, jr]; replace hI : (fun a => Below wr.heap.size wr a) wf := hI; clear hV jr; have jM := ak (dA.o.trans (hI.mono dA.o.size)); clear hI jt mS tX zn
   cases an with
   | true =>
    have HV := ak (HE.o rfl)
    go_wp2_with fail
    go_returns
    exact ⟨aL HV.o.symm, HB.o.trans (jM.o.mono HB.o.size)⟩
   | false =>
    have jL := ak (iu.o rfl)
    go_wp2_with fail
    go_roundw
    case rel => exact ⟨ii + 1, by omega, by go_num, jL, jM⟩
    case measure => simp [intOf]; omega
  obtain rfl : ii = n := by omega
  have HV : Hid (F = -1) := ak (by
   rw [<- HF.o]; unfold dJ; refine eP fun j hj => ?_
   rw [List.length_map] at hj; rw [List.getElem_map]; exact decide_eq_false (HD.o j hj (by have := HN.o; omega)))
  go_wp2_with fail
  go_returns
  exact ⟨aL HV.o.symm, HB.o.trans (dA.o.mono HB.o.size)⟩
def Ke (g2 b off n cc ii : Nat) (tu u : cT) (an : Bool) : Nat -> Value -> World -> Prop := N.tb [.inl (.pointer (some ⟨g2, 7, none⟩)), .inl (.slice (some ⟨b, off, none⟩) n cc), .inl (.int .i64 (ii : Int)), .inl (.pointer (some ⟨b, off + ii * 6, none⟩)), .inl (.pointer (some ⟨b, off + ii * 6, none⟩)), .inl (.agg #[.int .i64 tu.node, .int .i64 tu.epoch, .int .i64 tu.seq]), .inl (.agg #[.int .i64 u.node, .int .i64 u.epoch, .int .i64 u.seq]), .inl (.bool an)]
set_option maxHeartbeats 1000000 in
theorem iE (s : St) (y : Sy) (u : cT) (w : World) (h : cL w s y) (hl : s.com.length <= 1000000) :
  Calls Tryz.prog 24 #[s.val y, u.val] w fun e w' => e = .returned (iv (cE s u)) /\ Below w.heap.size w w' := by
 obtain ⟨wa, cM⟩ := aj (w.alloc (.cells (s.vals y).toArray 41)); have hba : Below w.heap.size w wa := by rw [cM]; exact av _ _
 have hca : Cells wa w.heap.size 41 (s.vals y) := by rw [cM]; exact aB _ _ _ _ rfl
 have hsz : wa.heap.size = w.heap.size + 1 := by rw [cM]; exact World.size_alloc _ _
 obtain ⟨wb, hwb⟩ := aj (wa.alloc (.cells #[iv u.node, iv u.epoch, iv u.seq] 47)); have hbb : Below wa.heap.size wa wb := by rw [hwb]; exact av _ _
 have hcb : Cells wb wa.heap.size 47 [iv u.node, iv u.epoch, iv u.seq] := by rw [hwb]; exact aB _ _ _ _ rfl
 rw [hsz] at hcb; have hB := hba.trans (hbb.mono hba.size); have HB := ak hB; have HC := ak (hca.later hbb); have HU := ak hcb; have HS := ak (h.later hB).com; have HL : Hid ((List.zipWith Co.vals s.com y.cs).length = s.com.length) := ak (by rw [List.length_zipWith, h.cs]; omega); obtain ⟨F, hF⟩ := ah (cE s u); have HF := ak hF; rw [hF]; obtain ⟨n, hn⟩ := ah s.com.length; have HN := ak hn; rw [hn] at hl; have F6 : Hid (∀ k (hk : k < s.com.length), ∃ b off, y.C = some ⟨b, off, none⟩ /\ wb.rangeAt b (off + k * 6) [iv s.com[k].tid.node, iv s.com[k].tid.epoch, iv s.com[k].tid.seq]) := ak fun k hk => by
  obtain ⟨b, off, e, hr⟩ := HS.o k (by rw [HL.o]; exact hk); refine ⟨b, off, e, fun j v hv => hr j v ?_⟩; have hj : j < 3 := (List.getElem?_eq_some_iff.1 hv).1; rw [List.getElem_zipWith]
  match j, hj with
  | 0, _ | 1, _ | 2, _ => exact hv
 clear h hF hba hbb hca hcb hsz hB; unfold St.vals at cM; unfold St.val cT.val; rw [hn] at cM ⊢; clear hn
 go_enter Tryz.func24, Tryz.ntmps24
 go_upto_region 1 with (fail)
 rw [<- cM, <- hwb]; clear cM hwb
 go_wp2_with fail
 go_loopw [5] (fun i wr => ∃ ii : Nat, ii <= n /\ i = iv (ii : Int) /\ Hid (∀ j (hj : j < s.com.length), j < ii -> s.com[j].tid ≠ u) /\ Hid (Below wb.heap.size wb wr)) (fun i _ => n - (intOf i).toNat)
 case atStart => exact ⟨0, Nat.zero_le _, rfl, ak (fun j _ hj => absurd hj (by omega)), ak (Below.refl _ _)⟩
 case round =>
  obtain ⟨ii, Ui, rfl, HD, dA⟩ := hrel; have hcr := HC.o.later dA.o; have c5 := hcr.cell (j := 7) rfl; rw [HN.o] at c5
  by_cases hlt : ii < n
  ·have hil : ii < s.com.length := by rw [HN.o]; exact hlt
   obtain ⟨b, off, hA, hr⟩ := F6.o ii hil; obtain ⟨tu, htu⟩ := ah (s.com[ii].tid); rw [htu] at hr; have jt : Hid (∀ wi, Below wr.heap.size wr wi -> wi.cell? ⟨w.heap.size, 7, none⟩ = some (.slice (some ⟨b, off, none⟩) n y.c)) := ak fun wi hb => by
    have h1 := (hcr.later hb).cell (j := 7) rfl; rw [HN.o, hA] at h1; exact h1
   have mS : Hid (∀ wi, Below wr.heap.size wr wi -> wi.rangeAt b (off + ii * 6) [iv tu.node, iv tu.epoch, iv tu.seq]) := ak fun wi hb => aM (aM hr dA.o) hb
   have tX : Hid (∀ wi, Below wr.heap.size wr wi -> Cells wi (w.heap.size + 1) 47 [iv u.node, iv u.epoch, iv u.seq]) := ak fun wi hb => (HU.o.later dA.o).later hb
   have HI := ak hlt; obtain ⟨an, han⟩ : ∃ x, decide (tu = u) = x := ⟨_, rfl⟩; have FH := ak han; have zn : Hid (∀ wi, (binOp .eql 47 (.agg #[iv tu.node, iv tu.epoch, iv tu.seq]) (.agg #[iv u.node, iv u.epoch, iv u.seq])).run Tryz.prog wi = .ok (.bool an) wi) := ak fun wi => by
    have h1 := vR tu.node tu.epoch tu.seq u.node u.epoch u.seq wi; rw [<- vS, han] at h1; exact h1
   have HE : Hid (an = true -> F = (ii : Int)) := ak fun e => by
    rw [<- HF.o]; unfold cE; refine gW (by rw [List.length_map]; exact hil) (fun j hj => ?_) ?_
    ·rw [List.getElem_map]
     exact decide_eq_false (HD.o j (by omega) hj)
    rw [List.getElem_map, htu, han, e]
   have iu : Hid (an = false -> ∀ j (hj : j < s.com.length), j < ii + 1 -> s.com[j].tid ≠ u) := ak fun e j hj hji => by
    by_cases e2 : j = ii
    ·subst e2
     rw [htu]; exact of_decide_eq_false (han.trans e)
    exact HD.o j hj (by omega)
   have DU := ak (show wr.cell? ⟨w.heap.size, 7, none⟩ = some (.slice (some ⟨b, off, none⟩) n y.c) from jt.o wr (Below.refl _ _))
   clear c5 hcr hil hr htu han; rw [hA] at *; have c5 := DU.o
   go_upto_region 4 with (fail)
   clear c5; refine N.rb 7 [7] (Ke w.heap.size b off n y.c ii tu u an) wr (fun V => [(some 13, V 0), (some 14, V 1), (some 15, V 2), (some 16, V 3), (some 17, V 4), (some 18, V 5), (some 19, V 6), (some 20, V 7)]) ?_ ?_
   ·intro i o ho
    have hi : i < 8 := (Array.getElem?_eq_some_iff.1 ho).1; rcases i with _ | _ | _ | _ | _ | _ | _ | _ | i
    rotate_right
    ·omega
    all_goals obtain rfl := Option.some.inj ho
    all_goals intro ρ wi hE hI hs hd
    all_goals try dsimp only at hI
    ·have e2 : ρ (.tmp 2) = (au w.heap.size) := hs 2; exact N.gw hI
    ·obtain ⟨_, rfl, l5⟩ := hd 0 13; have x0 := jt.o _ hI; exact N.gw hI
    ·have e5 : ρ (.tmp 5) = iv (ii : Int) := hs 5; exact N.gw hI
    ·obtain ⟨_, rfl, mZ⟩ := hd 1 14; obtain ⟨_, rfl, mY⟩ := hd 2 15
     have z1 : (0 : Int) <= (ii : Int) := by omega
     have z2 : (ii : Int) < (n : Int) := by have := HI.o; omega
     have z3 : ii < n := HI.o; exact N.gw hI
    ·obtain ⟨_, rfl, e16⟩ := hd 3 16; exact N.gw hI
    ·obtain ⟨_, rfl, e17⟩ := hd 4 17; have q0 := mS.o _ hI 0 _ rfl
     rw [Nat.add_zero] at q0; have q1 := mS.o _ hI 1 _ rfl; have q2 := mS.o _ hI 2 _ rfl; exact N.gw hI
    ·have e3 : ρ (.tmp 3) = (au ((w.heap.size + 1))) := hs 3; have hq := tX.o _ hI; obtain ⟨q0, q1, q2⟩ := hq.q3; exact N.gw hI
    obtain ⟨_, rfl, e18⟩ := hd 5 18; obtain ⟨_, rfl, e19⟩ := hd 6 19
    exact N.Gives.value (v := .bool an) (w' := wi) (qQ .eql 47 _ _ _ rfl _ _ e18 e19 (by kernel_rfl) (zn.o wi)) (N.bA.same hI rfl)
   intro V wf hV hI
   have jr : V 7 = .bool an := hV 7 (by decide) rfl; simp only [N.aP, List.foldl_cons, List.foldl_nil, Act.put, List.setIfInBounds_toArray, List.set_cons_succ, List.set_cons_zero, jr]; replace hI : (fun a => Below wr.heap.size wr a) wf := hI; clear hV jr; have jM := ak (dA.o.trans (hI.mono dA.o.size)); clear hI jt mS tX zn
   cases an with
   | true =>
    have HV := ak (HE.o rfl)
    go_wp2_with fail
    go_returns
    exact ⟨aL HV.o.symm, HB.o.trans (jM.o.mono HB.o.size)⟩
   | false =>
    have jL := ak (iu.o rfl)
    go_wp2_with fail
    go_roundw
    case rel => exact ⟨ii + 1, by omega, by go_num, jL, jM⟩
    case measure => simp [intOf]; omega
  obtain rfl : ii = n := by omega
  have HV : Hid (F = -1) := ak (by
   rw [<- HF.o]; unfold cE; refine eP fun j hj => ?_
   rw [List.length_map] at hj; rw [List.getElem_map]; exact decide_eq_false (HD.o j hj (by have := HN.o; omega)))
  go_wp2_with fail
  go_returns
  exact ⟨aL HV.o.symm, HB.o.trans (dA.o.mono HB.o.size)⟩
