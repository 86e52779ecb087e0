/- Part 28 of the proof. Conditions: none. -/
import Derived.Test.YtdkchpiinelmiaaGreatZ18
import Derived.Great.Walk
namespace Go.Proofs.YtdkchpiinelmiaaGreat.Led
set_option maxRecDepth 100000
open Go.RowKit Go.Deep Mem fN Rec
theorem vg {P : Program} {ρ : Operand -> Value} {o : Oper} (ty : TypeId) (x u : Operand) (ho : o.op = .makeSlice ty x u) (l c : Value) (hx : ρ x = l) (hu : ρ u = c) {w w' : World} {v : Value} (hrun : (Instr.makeSlice ty l c).run P w = .ok v w') :
    (execOp ρ o).run P w = .ok (.value v) w' := by
  unfold execOp; simp only [ho, hx, hu, Sem.run_bind, Sem.run_pure, Result.andThen_ok, hrun]
def cJ (node nodes : Int) (n : Nat) : St := ⟨node, nodes, n, 0, List.replicate n rH, [], [], []⟩
theorem rB (n : Nat) (h : n <= 16) : (madeCells (Value.agg #[iv 0, iv 0, iv 0, iv 0, iv 0]).cells (n * 5)).toList = ((List.replicate n rH).map Pl.vals).flatten := by
  rcases n with _ | _ | _ | _ | _ | _ | _ | _ | _ | _ | _ | _ | _ | _ | _ | _ | _ | n
  iterate 17 · kernel_rfl
  omega
set_option maxHeartbeats 2000000 in
theorem vh (node nodes : Int) (n : Nat) (w : World) (hn : n <= 16) :
    Calls Tryz.prog 26 #[iv node, iv nodes, iv (n : Int)] w fun e w' => (∃ z : Sy, e = .returned ((cJ node nodes n).val z) /\ Lists (fun k => k < w.heap.size) w.heap.size w' (cJ node nodes n) z) /\ Below w.heap.size w w' := by
  obtain ⟨i0, hi, hz0, hz1, hz2⟩ := info_parts xX.info; obtain ⟨wb, hwb⟩ := aj (w.alloc (.cells #[iv 0, iv 0, iv 0, iv 0, .slice none 0 0, .slice none 0 0, .slice none 0 0, .slice none 0 0] 32)); have hb : Below w.heap.size w wb := by rw [hwb]; exact av _ _
  have hc : Cells wb w.heap.size 32 ZL := by rw [hwb]; exact aB _ _ _ _ rfl
  obtain ⟨w1, hmk, hrow, hgr⟩ := run_makeSlice_full (P := Tryz.prog) (w := wb) wb.heap.size 27 66 i0 _ 5 Tryz.underlying27 hi hz0 hz1 .i64 .i64 n (by omega) (by rw [hz2]; omega) (by unfold maxLen; omega) (Nat.le_refl _); rw [rB n hn] at hrow; have hb1 : Below wb.heap.size wb w1 := (Below.refl _ _).grown hgr (Nat.le_refl _) (fun k e => by cases e); have hc1 := hc.later hb1; have HMK := ak hmk; have dW := ak hrow; have fW := ak (hb.trans (hb1.mono hb.size)); have mU := ak hc.lt; have DV := ak hc1; have Us : Hid (w1.heap.size >= wb.heap.size) := ak hb1.size; obtain ⟨m, hm⟩ := ah wb.heap.size; clear hmk hrow hb hb1 hc hc1 hgr hi hz0 hz1 hz2; have hnn : (n : Int) <= 16 := by omega
  go_enter Tryz.func26, Tryz.ntmps26
  go_upto_region 1 with (fail)
  rw [<- hwb]; clear hwb; rw [hm] at HMK dW mU; have HM := ak hm; clear hm
  apply wp_region_lit
  refine Go.Great.wpList_runTo rfl (some 7) rfl (iv node) _ (by rfl) ?_; refine Go.Great.wpList_runTo rfl (some 8) rfl (iv nodes) _ (by rfl) ?_; refine Go.Great.wpList_runTo rfl (some 9) rfl (iv (n : Int)) _ (by rfl) ?_; refine Go.Great.wpList_runTo rfl (some 10) rfl (iv (n : Int)) _ (by rfl) ?_; refine Go.Great.wpList_runTo rfl (some 11) rfl (.slice (some ⟨m, 0, none⟩) n n) w1 (vg _ _ _ rfl _ _ rfl rfl HMK.o) ?_; refine Go.Great.wpList_runTo rfl (some 12) rfl (.agg #[iv node, iv nodes, iv (n : Int), iv 0, .slice (some ⟨m, 0, none⟩) n n, .slice none 0 0, .slice none 0 0, .slice none 0 0]) w1 (by go_simp) ?_; refine aA rfl 32 _ _ rfl w.heap.size #[iv node, iv nodes, iv (n : Int), iv 0, .slice (some ⟨m, 0, none⟩) n n, .slice none 0 0, .slice none 0 0, .slice none 0 0] [iv node, iv nodes, iv (n : Int), iv 0, .slice (some ⟨m, 0, none⟩) n n, .slice none 0 0, .slice none 0 0, .slice none 0 0] rfl rfl rfl DV.o rfl (by kernel_rfl) (by simp [Value.oneCell']) fun w9 hpt hov => ?_
  have bU := ak hpt; have HW9 := ak hov; clear hpt hov
  go_wp2_with fail
  refine bodyPost_ret (v := .agg #[iv node, iv nodes, iv (n : Int), iv 0, .slice (some ⟨m, 0, none⟩) n n, .slice none 0 0, .slice none 0 0, .slice none 0 0]) ((g_ (p := 6) (ty := 32) (by rfl) _ bU.o _ (by rfl) Tryz.underlying32 rfl (by kernel_rfl)).trans (by rfl)) rfl ?_; have hl : Lists (fun k => k < m) m w1 (cJ node nodes n) ⟨some ⟨m, 0, none⟩, n, none, 0, none, 0, none, 0, [], []⟩ := by
    refine ⟨?_, World.ownsRow_nil _ _ _ _, World.ownsRow_nil _ _ _ _, World.ownsRow_nil _ _ _ _, rfl, rfl, fun k h => absurd h (by simp [cJ]), fun k h => absurd h (by simp [cJ]), fun _ _ e => (by cases e), fun _ _ e => (by cases e), fun _ _ e => (by cases e), fun _ e => (by cases e), fun _ e => (by cases e), fun _ e => (by cases e)⟩; have h := dW.o; unfold cJ; simp only [List.length_replicate]; exact h
  have hwm : w.heap.size <= m := Nat.le_of_lt mU.o; refine ⟨⟨⟨some ⟨m, 0, none⟩, n, none, 0, none, 0, none, 0, [], []⟩, ?_, ?_⟩, ?_⟩
  · unfold St.val cJ
    simp
  · have h9 := hl.only HW9.o (fun k _ e => by have := mU.o; omega) (fun k hk e => by have := (hl.lt hk).1; have := mU.o; omega)
    exact h9.weak hwm fun k hk => Nat.lt_of_lt_of_le hk hwm
  exact fW.o.trans (HW9.o.below fW.o.size fun k e => by rw [e]; exact Nat.le_refl _)
end Go.Proofs.YtdkchpiinelmiaaGreat.Led
namespace Go.Proofs.YtdkchpiinelmiaaGreat.Rec
set_option maxRecDepth 100000
open Go.RowKit Mem fN
theorem rU (a b c x y z : Int) (w : World) : (binOp .neq 47 (.agg #[iv a, iv b, iv c]) (.agg #[iv x, iv y, iv z])).run Tryz.prog w = .ok (.bool (!(decide (a = x) && decide (b = y) && decide (c = z)))) w := by
 have e : Tryz.prog.underlying 47 = some (.struct (Tryz.prog.fieldsOf 47)) := by kernel_rfl
 have e2 : Tryz.prog.stoodInHeld 47 = false := by kernel_rfl
 rw [run_neq_struct, run_equalIn_agg w _ _ _ _ e e2]; obtain ⟨f0, f1, f2, hf, t0, t1, t2, o0, o1, o2, n0, n1, n2⟩ : ∃ f0 f1 f2 : Field, (Tryz.prog.fieldsOf 47).toList = [f0, f1, f2] /\ f0.type = 3 /\ f1.type = 3 /\ f2.type = 3 /\ f0.offset = 0 /\ f1.offset = 1 /\ f2.offset = 2 /\ f0.name ≠ "_" /\ f1.name ≠ "_" /\ f2.name ≠ "_" := ⟨_, _, _, rfl, rfl, rfl, rfl, rfl, rfl, rfl, by decide, by decide, by decide⟩; rw [hf]; have hu := Tryz.underlying3
 by_cases ha : a = x
 ·by_cases hb : b = y
  ·by_cases hc : c = z
   ·simp [Op.eqFields, n0, n1, n2, t0, t1, t2, o0, o1, o2, go_sem, hu, ha, hb, hc]
   simp [Op.eqFields, n0, n1, n2, t0, t1, t2, o0, o1, o2, go_sem, hu, ha, hb, hc]
  simp [Op.eqFields, n0, n1, n2, t0, t1, t2, o0, o1, o2, go_sem, hu, ha, hb]
 simp [Op.eqFields, n0, n1, n2, t0, t1, t2, o0, o1, o2, go_sem, hu, ha]
theorem Ko (b0 b1 b2 b3 b4 b5 b6 b7 b8 b9 b10 uR : Bool) (w : World) :
  (binOp .neq 124 (.agg #[.bool b0, .bool b1, .bool b2, .bool b3, .bool b4, .bool b5, .bool b6, .bool b7, .bool b8, .bool b9, .bool b10, .bool uR]) (.agg #[.bool false, .bool false, .bool false, .bool false, .bool false, .bool false, .bool false, .bool false, .bool false, .bool false, .bool false, .bool false])).run Tryz.prog w =
   .ok (.bool ([b0, b1, b2, b3, b4, b5, b6, b7, b8, b9, b10, uR].any id)) w := by
 cases b0
 ·cases b1
  ·cases b2
   ·cases b3
    ·cases b4
     ·cases b5
      ·cases b6
       ·cases b7
        ·cases b8
         ·cases b9
          ·cases b10
           ·cases uR
            ·kernel_rfl
            kernel_rfl
           kernel_rfl
          kernel_rfl
         kernel_rfl
        kernel_rfl
       kernel_rfl
      kernel_rfl
     kernel_rfl
    kernel_rfl
   kernel_rfl
  kernel_rfl
 kernel_rfl
def KT (t : cT) : Bool := decide (t.node = 0) && decide (t.epoch = 0) && decide (t.seq = 0)
def hasB (r : Rc) : List Bool := [decide (r.node ≠ 0), decide (r.count ≠ 0), decide (r.num ≠ 0), decide (r.cell ≠ 0), decide (r.status ≠ 0), decide (r.hop ≠ 0), decide (r.version ≠ 0), decide (r.value ≠ 0), !KT r.tid, decide (0 < r.items.length), decide (0 < r.nodes.length), r.yes]
def uq (r : Rc) (k : Nat) : List Bool := (hasB r).mapIdx fun i b => if i < 8 then decide (i < k) && b else b
theorem Ug {k : Nat} (h : k < 8) : k = 0 \/ k = 1 \/ k = 2 \/ k = 3 \/ k = 4 \/ k = 5 \/ k = 6 \/ k = 7 := by omega
theorem Iu (r : Rc) (k : Nat) (h : k < 8) : ((uq r k).map Value.bool).set k (.bool (decide (r.get k ≠ 0))) = (uq r (k + 1)).map Value.bool := by
 rcases Ug h with rfl | rfl | rfl | rfl | rfl | rfl | rfl | rfl <;> simp [uq, hasB, Rc.get, Rc.jN]
theorem Iw (r : Rc) : uq r 8 = hasB r := by simp [uq, hasB]
theorem dY (r : Rc) : (hasB r).length = 12 := rfl
theorem yT (r : Rc) (k : Nat) : (uq r k).length = 12 := by simp [uq, hasB]
theorem EO (a0 a1 a2 a3 a4 a5 a6 a7 : Int) (k : Nat) (h : k < 8) (w : World) : (Instr.index 128 (.agg #[iv a0, iv a1, iv a2, iv a3, iv a4, iv a5, iv a6, iv a7]) (iv (k : Int))).run Tryz.prog w = .ok (iv (([a0, a1, a2, a3, a4, a5, a6, a7][k]?).getD 0)) w := by
 rcases Ug h with rfl | rfl | rfl | rfl | rfl | rfl | rfl | rfl
 iterate 7 ·kernel_rfl
 kernel_rfl
theorem u7 (r : Rc) (k : Nat) (h : k < 8) (w : World) : (Instr.index 128 (.agg #[iv r.node, iv r.count, iv r.num, iv r.cell, iv r.status, iv r.hop, iv r.version, iv r.value]) (iv (k : Int))).run Tryz.prog w = .ok (iv (r.get k)) w :=
 EO _ _ _ _ _ _ _ _ k h w
theorem zX (l : List Bool) (h : l.length = 12) : ∃ b0 b1 b2 b3 b4 b5 b6 b7 b8 b9 b10 uR, l = [b0, b1, b2, b3, b4, b5, b6, b7, b8, b9, b10, uR] := by
 match l, h with
 | [b0, b1, b2, b3, b4, b5, b6, b7, b8, b9, b10, uR], _ => exact ⟨b0, b1, b2, b3, b4, b5, b6, b7, b8, b9, b10, uR, rfl⟩
set_option maxHeartbeats 1000000 in
theorem fF (r : Rc) (y : Lay) (w : World) :
  Calls Tryz.prog 81 #[r.val y] w fun e w' => e = .returned (.agg ((hasB r).map Value.bool).toArray) /\ Below w.heap.size w w' := by
 have HN := ak (fun w => rA r y w); have HX := ak (u7 r); have HS := ak (Iu r); have HA := ak (Iw r); have HK := ak (yT r); have H0 := ak (show [Value.bool false, .bool false, .bool false, .bool false, .bool false, .bool false, .bool false, .bool false, .bool (!(decide (r.tid.node = 0) && decide (r.tid.epoch = 0) && decide (r.tid.seq = 0))), .bool (decide (0 < r.items.length)), .bool (decide (0 < r.nodes.length)), .bool r.yes] = (uq r 0).map Value.bool by simp [uq, hasB, KT])
 have Vg := rU r.tid.node r.tid.epoch r.tid.seq 0 0 0; obtain ⟨G, hG⟩ := ah r.get; obtain ⟨K, hK⟩ := ah (uq r); obtain ⟨Z, hZ⟩ := ah (hasB r); rw [hG] at HX HS; rw [hK] at HS HA H0 HK; rw [hZ] at HA ⊢; clear hG hK hZ; obtain ⟨k, ⟨t1, t2, t3⟩, its, tT, a0, a1, a2, a3, a4, a5, a6, a7, yes⟩ := r; obtain ⟨A, c, B, d⟩ := y
 generalize hL : its.length = L at HN H0
 generalize hM : tT.length = M at HN H0
 unfold Rc.val at HN ⊢; simp only [hL, hM] at HN H0 HX Vg ⊢; clear hL hM
 go_enter Tryz.func81, Tryz.ntmps81
 go_wp2_with (go_region)
 refine (HN.o _).mono ?_; rintro e w1 ⟨rfl, hb1⟩; have hc := (aB _ _ _ _ rfl).later (Below.trans (Below.drew (Below.refl _ _)) hb1); have hd := ((aB _ _ _ _ rfl).later (av _ _)).later (Below.trans (Below.drew (Below.refl _ _)) hb1); have hb := Below.trans (Below.drew (Go.Joins.below_alloc3 w _ _ _)) (Below.mono hb1 (by simp; omega)); have hcl : ([Value.bool false, .bool false, .bool false, .bool false, .bool false, .bool false, .bool false, .bool false, .bool (!decide (t1 = 0) || !decide (t2 = 0) || !decide (t3 = 0)), .bool (decide (0 < L)), .bool (decide (0 < M)), .bool yes]) = (K 0).map Value.bool := by
  rw [<- H0.o]
  simp
 have hc2 : Cells w1 (w.heap.size + 1 + 1) 124 ((K 0).map Value.bool) := by
  rw [<- hcl]
  simpa using hc
 have hd2 : Cells w1 (w.heap.size + 1) 124 [.bool false, .bool false, .bool false, .bool false, .bool false, .bool false, .bool false, .bool false, .bool false, .bool false, .bool false, .bool false] := by
  simpa using hd
 have HC := ak hc2; have HD := ak hd2; have HB := ak hb; clear hc hd hb hc2 hd2 hcl hb1 H0 HN Vg
 go_wp2_with fail
 go_loopw [4, 5, 23] (fun _ _ i wr => ∃ k : Nat, k <= 8 /\ i = iv (k : Int) /\ Cells wr (w.heap.size + 1 + 1) 124 ((K k).map Value.bool) /\ Cells wr (w.heap.size + 1) 124 [.bool false, .bool false, .bool false, .bool false, .bool false, .bool false, .bool false, .bool false, .bool false, .bool false, .bool false, .bool false] /\ Below w.heap.size w wr) (fun _ _ i _ => 8 - (intOf i).toNat)
 case atStart => exact ⟨0, by omega, rfl, HC.o, HD.o, HB.o⟩
 case round =>
  obtain ⟨k, hk, rfl, gH, hdk, hbk⟩ := hrel; have wN := ak gH; have HDK := ak hdk; have Vy := ak hbk
  by_cases hlt : k < 8
  ·have hx := HX.o k hlt
   have hkl := HK.o k; have ck := gH.cell (j := k) (by rw [List.getElem?_eq_getElem (by simp; omega)]); have fk := gH.frozen (j := k) (by simp; omega); clear gH hdk hbk
   go_wp2_with fail
   go_roundw
   case rel =>
    refine ⟨k + 1, by omega, by go_num, ?_, ?_, ?_⟩
    ·rw [<- HS.o k hlt]
     rw [show decide (G k ≠ 0) = (G k != 0) by by_cases h : G k = 0 <;> simp [h]]
     exact wN.o.fB k (.bool (G k != 0))
    ·simpa using HDK.o.far (by simp) _
    exact Vy.o.setCell (by simp; omega) _
   case measure => simp [intOf]; omega
  obtain rfl : k = 8 := by omega
  rw [HA.o] at wN gH; have hzl : Z.length = 12 := by rw [<- HA.o]; exact HK.o 8
  obtain ⟨b0, b1, b2, b3, b4, b5, b6, b7, b8, b9, b10, uR, hZ⟩ := zX Z hzl; rw [hZ] at gH; have HZ := ak hZ; clear hZ; have c0 := gH.cell (j := 0) rfl; have c1 := gH.cell (j := 1) rfl; have c2 := gH.cell (j := 2) rfl; have c3 := gH.cell (j := 3) rfl; have c4 := gH.cell (j := 4) rfl; have c5 := gH.cell (j := 5) rfl; have c6 := gH.cell (j := 6) rfl; have c7 := gH.cell (j := 7) rfl; have c8 := gH.cell (j := 8) rfl; have c9 := gH.cell (j := 9) rfl; have c10 := gH.cell (j := 10) rfl; have c11 := gH.cell (j := 11) rfl; have d0 := hdk.cell (j := 0) rfl; have f0 := hdk.frozen (j := 0) (by simp); have d1 := hdk.cell (j := 1) rfl; have f1 := hdk.frozen (j := 1) (by simp); have d2 := hdk.cell (j := 2) rfl; have f2 := hdk.frozen (j := 2) (by simp); have d3 := hdk.cell (j := 3) rfl; have f3 := hdk.frozen (j := 3) (by simp); have d4 := hdk.cell (j := 4) rfl; have f4 := hdk.frozen (j := 4) (by simp); have d5 := hdk.cell (j := 5) rfl; have f5 := hdk.frozen (j := 5) (by simp); have d6 := hdk.cell (j := 6) rfl; have f6 := hdk.frozen (j := 6) (by simp); have d7 := hdk.cell (j := 7) rfl; have f7 := hdk.frozen (j := 7) (by simp); have d8 := hdk.cell (j := 8) rfl; have f8 := hdk.frozen (j := 8) (by simp); have d9 := hdk.cell (j := 9) rfl; have f9 := hdk.frozen (j := 9) (by simp); have d10 := hdk.cell (j := 10) rfl; have f10 := hdk.frozen (j := 10) (by simp); have d11 := hdk.cell (j := 11) rfl; have f11 := hdk.frozen (j := 11) (by simp); clear gH hdk hbk HX HS HA HK hzl
  go_wp2_with fail
  have hz := ((((((((((((HDK.o.fB 0 (.bool b0)).fB 1 (.bool b1)).fB 2 (.bool b2)).fB 3 (.bool b3)).fB 4 (.bool b4)).fB 5 (.bool b5)).fB 6 (.bool b6)).fB 7 (.bool b7)).fB 8 (.bool b8)).fB 9 (.bool b9)).fB 10 (.bool b10)).fB 11 (.bool uR)); obtain ⟨e0, e1, e2, e3, e4, e5, e6, e7, e8, e9, e10, e11⟩ := hz.wP; have hs : w.heap.size <= w.heap.size + 1 := by omega
  clear hz; refine bodyPost_ret (v := .agg #[.bool b0, .bool b1, .bool b2, .bool b3, .bool b4, .bool b5, .bool b6, .bool b7, .bool b8, .bool b9, .bool b10, .bool uR]) (by simp [results, go_sem, e0, e1, e2, e3, e4, e5, e6, e7, e8, e9, e10, e11]) rfl ⟨by rw [HZ.o]; rfl, ?_⟩; exact (((((((((((Vy.o.setCell hs _).setCell hs _).setCell hs _).setCell hs _).setCell hs _).setCell hs _).setCell hs _).setCell hs _).setCell hs _).setCell hs _).setCell hs _).setCell hs _
