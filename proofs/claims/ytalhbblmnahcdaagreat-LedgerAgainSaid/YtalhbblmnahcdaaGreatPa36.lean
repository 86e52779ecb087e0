/-
  Layer 8: a state of which nothing is known.
  Layer 7: which fields of a record aren't zero.
  Conditions: none.
-/
import Derived.Test.YtalhbblmnahcdaaGreatPa24
import Derived.Laws.OwnMore
import Derived.Great.Walk
import Derived.Test.YtalhbblmnahcdaaGreatPa8
import Derived.ChangeKeysEq
namespace Go.Proofs.YtalhbblmnahcdaaGreat.Led
set_option maxRecDepth 100000
open Go.RowKit Go.Deep Go.Proofs.YtalhbblmnahcdaaGreat.Mem Go.Proofs.YtalhbblmnahcdaaGreat.Item Go.Proofs.YtalhbblmnahcdaaGreat.Rec
theorem exec_make {P : Program} {ρ : Operand → Value} {o : Oper} (ty : TypeId) (x u : Operand) (ho : o.op = .makeSlice ty x u) (l c : Value) (hx : ρ x = l) (hu : ρ u = c) {w w' : World} {v : Value} (hrun : (Instr.makeSlice ty l c).run P w = .ok v w') :
    (execOp ρ o).run P w = .ok (.value v) w' := by
  unfold execOp
  simp only [ho, hx, hu, Sem.run_bind, Sem.run_pure, Result.andThen_ok, hrun]
def emptyS (node nodes : Int) (n : Nat) : St := ⟨node, nodes, n, 0, List.replicate n pl0, [], [], []⟩
theorem made_places (n : Nat) (h : n ≤ 16) : (madeCells (Value.agg #[.int .i64 0, .int .i64 0, .int .i64 0, .int .i64 0, .int .i64 0]).cells (n * 5)).toList = ((List.replicate n pl0).map Pl.vals).flatten := by
  rcases n with _ | _ | _ | _ | _ | _ | _ | _ | _ | _ | _ | _ | _ | _ | _ | _ | _ | n
  · kernel_rfl
  · kernel_rfl
  · kernel_rfl
  · kernel_rfl
  · kernel_rfl
  · kernel_rfl
  · kernel_rfl
  · kernel_rfl
  · kernel_rfl
  · kernel_rfl
  · kernel_rfl
  · kernel_rfl
  · kernel_rfl
  · kernel_rfl
  · kernel_rfl
  · kernel_rfl
  · kernel_rfl
  · omega
set_option maxHeartbeats 2000000 in
theorem empty_any (node nodes : Int) (n : Nat) (w : World) (hn : n ≤ 16) :
    Calls Tryz.prog 32 #[.int .i64 node, .int .i64 nodes, .int .i64 (n : Int)] w fun e w' => (∃ z : Sy, e = .returned ((emptyS node nodes n).val z) ∧ Lists (fun k => k < w.heap.size) w.heap.size w' (emptyS node nodes n) z) ∧ Below w.heap.size w w' := by
  obtain ⟨i0, hi, hz0, hz1, hz2⟩ := info_parts el_place.info
  obtain ⟨wb, hwb⟩ : ∃ v, v = w.alloc (.cells #[.int .i64 0, .int .i64 0, .int .i64 0, .int .i64 0, .slice none 0 0, .slice none 0 0, .slice none 0 0, .slice none 0 0] 32) := ⟨_, rfl⟩
  have hb : Below w.heap.size w wb := by rw [hwb]; exact below_alloc _ _
  have hc : Cells wb w.heap.size 32 [.int .i64 0, .int .i64 0, .int .i64 0, .int .i64 0, .slice none 0 0, .slice none 0 0, .slice none 0 0, .slice none 0 0] := by rw [hwb]; exact cells_new _ _ _ _ rfl
  obtain ⟨w1, hmk, hrow, hgr⟩ := run_makeSlice_full (P := Tryz.prog) (w := wb) wb.heap.size 27 74 i0 _ 5 Tryz.underlying27 hi hz0 hz1 .i64 .i64 n (by omega) (by rw [hz2]; omega) (by unfold maxLen; omega) (Nat.le_refl _)
  rw [made_places n hn] at hrow
  have hb1 : Below wb.heap.size wb w1 := (Below.refl _ _).grown hgr (Nat.le_refl _) (fun k e => by cases e)
  have hc1 := hc.later hb1
  have HMK := Lib.hid hmk
  have HROW := Lib.hid hrow
  have HB1 := Lib.hid (hb.trans (hb1.mono hb.size))
  have HLT := Lib.hid hc.lt
  have HC1 := Lib.hid hc1
  have HSZ : Hid (w1.heap.size ≥ wb.heap.size) := Lib.hid hb1.size
  obtain ⟨m, hm⟩ : ∃ m, wb.heap.size = m := ⟨_, rfl⟩
  clear hmk hrow hb hb1 hc hc1 hgr hi hz0 hz1 hz2
  have hnn : (n : Int) ≤ 16 := by omega
  go_enter Tryz.func32, Tryz.ntmps32
  go_upto_region 1 with (fail)
  rw [← hwb]
  clear hwb
  rw [hm] at HMK HROW HLT
  have HM := Lib.hid hm
  clear hm
  apply wp_region_lit
  refine Go.Great.wpList_runTo rfl (some 7) rfl (.int .i64 node) _ (by rfl) ?_
  refine Go.Great.wpList_runTo rfl (some 8) rfl (.int .i64 nodes) _ (by rfl) ?_
  refine Go.Great.wpList_runTo rfl (some 9) rfl (.int .i64 (n : Int)) _ (by rfl) ?_
  refine Go.Great.wpList_runTo rfl (some 10) rfl (.int .i64 (n : Int)) _ (by rfl) ?_
  refine Go.Great.wpList_runTo rfl (some 11) rfl (.slice (some ⟨m, 0, none⟩) n n) w1 (exec_make _ _ _ rfl _ _ rfl rfl HMK.out) ?_
  refine Go.Great.wpList_runTo rfl (some 12) rfl (.agg #[.int .i64 node, .int .i64 nodes, .int .i64 (n : Int), .int .i64 0, .slice (some ⟨m, 0, none⟩) n n, .slice none 0 0, .slice none 0 0, .slice none 0 0]) w1 (by go_simp) ?_
  refine wpList_store_cells rfl 32 _ _ rfl w.heap.size #[.int .i64 node, .int .i64 nodes, .int .i64 (n : Int), .int .i64 0, .slice (some ⟨m, 0, none⟩) n n, .slice none 0 0, .slice none 0 0, .slice none 0 0] [.int .i64 node, .int .i64 nodes, .int .i64 (n : Int), .int .i64 0, .slice (some ⟨m, 0, none⟩) n n, .slice none 0 0, .slice none 0 0, .slice none 0 0] rfl rfl rfl HC1.out rfl (by kernel_rfl) (by simp [Value.oneCell']) fun w9 hpt hov => ?_
  have HPT := Lib.hid hpt
  have HW9 := Lib.hid hov
  clear hpt hov
  go_wp2_with fail
  refine bodyPost_ret (v := .agg #[.int .i64 node, .int .i64 nodes, .int .i64 (n : Int), .int .i64 0, .slice (some ⟨m, 0, none⟩) n n, .slice none 0 0, .slice none 0 0, .slice none 0 0]) ((ret_cell (p := 6) (ty := 32) (by rfl) _ HPT.out _ (by rfl) Tryz.underlying32 rfl (by kernel_rfl)).trans (by rfl)) rfl ?_
  have hl : Lists (fun k => k < m) m w1 (emptyS node nodes n) ⟨some ⟨m, 0, none⟩, n, none, 0, none, 0, none, 0, [], []⟩ := by
    refine ⟨?_, World.ownsRow_nil _ _ _ _, World.ownsRow_nil _ _ _ _, World.ownsRow_nil _ _ _ _, rfl, rfl, fun k h => absurd h (by simp [emptyS]), fun k h => absurd h (by simp [emptyS]), fun _ _ e => (by cases e), fun _ _ e => (by cases e), fun _ _ e => (by cases e), fun _ e => (by cases e), fun _ e => (by cases e), fun _ e => (by cases e)⟩
    have h := HROW.out
    unfold emptyS
    simp only [List.length_replicate]
    exact h
  have hwm : w.heap.size ≤ m := Nat.le_of_lt HLT.out
  refine ⟨⟨⟨some ⟨m, 0, none⟩, n, none, 0, none, 0, none, 0, [], []⟩, ?_, ?_⟩, ?_⟩
  · unfold St.val emptyS
    simp
  · have h9 := hl.only HW9.out (fun k _ e => by have := HLT.out; omega) (fun k hk e => by have := (hl.lt hk).1; have := HLT.out; omega)
    exact h9.weak hwm fun k hk => Nat.lt_of_lt_of_le hk hwm
  · exact HB1.out.trans (HW9.out.below HB1.out.size fun k e => by rw [e]; exact Nat.le_refl _)
end Go.Proofs.YtalhbblmnahcdaaGreat.Led
namespace Go.Proofs.YtalhbblmnahcdaaGreat.Rec
set_option maxRecDepth 100000
open Go.RowKit Go.Proofs.YtalhbblmnahcdaaGreat.Mem Go.Proofs.YtalhbblmnahcdaaGreat.Item
theorem tid_neq (a b c x y z : Int) (w : World) : (binOp .neq 47 (.agg #[.int .i64 a, .int .i64 b, .int .i64 c]) (.agg #[.int .i64 x, .int .i64 y, .int .i64 z])).run Tryz.prog w = .ok (.bool (!(decide (a = x) && decide (b = y) && decide (c = z)))) w := by
 have e : Tryz.prog.underlying 47 = some (.struct (Tryz.prog.fieldsOf 47)) := by kernel_rfl
 have e2 : Tryz.prog.stoodInHeld 47 = false := by kernel_rfl
 rw [run_neq_struct, run_equalIn_agg w _ _ _ _ e e2]
 obtain ⟨f0, f1, f2, hf, t0, t1, t2, o0, o1, o2, n0, n1, n2⟩ : ∃ f0 f1 f2 : Field, (Tryz.prog.fieldsOf 47).toList = [f0, f1, f2] ∧ f0.type = 3 ∧ f1.type = 3 ∧ f2.type = 3 ∧ f0.offset = 0 ∧ f1.offset = 1 ∧ f2.offset = 2 ∧ f0.name ≠ "_" ∧ f1.name ≠ "_" ∧ f2.name ≠ "_" := ⟨_, _, _, rfl, rfl, rfl, rfl, rfl, rfl, rfl, by decide, by decide, by decide⟩
 rw [hf]
 have hu := Tryz.underlying3
 by_cases ha : a = x
 ·by_cases hb : b = y
  ·by_cases hc : c = z
   ·simp [Op.eqFields, n0, n1, n2, t0, t1, t2, o0, o1, o2, go_sem, hu, ha, hb, hc]
   ·simp [Op.eqFields, n0, n1, n2, t0, t1, t2, o0, o1, o2, go_sem, hu, ha, hb, hc]
  ·simp [Op.eqFields, n0, n1, n2, t0, t1, t2, o0, o1, o2, go_sem, hu, ha, hb]
 ·simp [Op.eqFields, n0, n1, n2, t0, t1, t2, o0, o1, o2, go_sem, hu, ha]
theorem arr_neq (b0 b1 b2 b3 b4 b5 b6 b7 b8 b9 b10 b11 : Bool) (w : World) :
  (binOp .neq 134 (.agg #[.bool b0, .bool b1, .bool b2, .bool b3, .bool b4, .bool b5, .bool b6, .bool b7, .bool b8, .bool b9, .bool b10, .bool b11]) (.agg #[.bool false, .bool false, .bool false, .bool false, .bool false, .bool false, .bool false, .bool false, .bool false, .bool false, .bool false, .bool false])).run Tryz.prog w =
   .ok (.bool ([b0, b1, b2, b3, b4, b5, b6, b7, b8, b9, b10, b11].any id)) w := by
 cases b0
 ·cases b1
  ·cases b2
   ·cases b3
    ·cases b4
     ·cases b5
      ·cases b6
       ·cases b7
        ·cases b8
         ·cases b9
          ·cases b10
           ·cases b11
            ·kernel_rfl
            ·kernel_rfl
           ·kernel_rfl
          ·kernel_rfl
         ·kernel_rfl
        ·kernel_rfl
       ·kernel_rfl
      ·kernel_rfl
     ·kernel_rfl
    ·kernel_rfl
   ·kernel_rfl
  ·kernel_rfl
 ·kernel_rfl
def t0B (t : Tid) : Bool := decide (t.node = 0) && decide (t.epoch = 0) && decide (t.seq = 0)
/-- Of each field: isn't it zero? -/
def hasB (r : Rc) : List Bool := [decide (r.node ≠ 0), decide (r.count ≠ 0), decide (r.num ≠ 0), decide (r.cell ≠ 0), decide (r.status ≠ 0), decide (r.hop ≠ 0), decide (r.version ≠ 0), decide (r.value ≠ 0), !t0B r.tid, decide (0 < r.items.length), decide (0 < r.nodes.length), r.yes]
/-- Behind k numbers. -/
def hasK (r : Rc) (k : Nat) : List Bool := (hasB r).mapIdx fun i b => if i < 8 then decide (i < k) && b else b
theorem lt8 {k : Nat} (h : k < 8) : k = 0 ∨ k = 1 ∨ k = 2 ∨ k = 3 ∨ k = 4 ∨ k = 5 ∨ k = 6 ∨ k = 7 := by omega
theorem hasK_set (r : Rc) (k : Nat) (h : k < 8) : ((hasK r k).map Value.bool).set k (.bool (decide (r.get k ≠ 0))) = (hasK r (k + 1)).map Value.bool := by
 rcases lt8 h with rfl | rfl | rfl | rfl | rfl | rfl | rfl | rfl <;> simp [hasK, hasB, Rc.get, Rc.numV]
theorem hasK_all (r : Rc) : hasK r 8 = hasB r := by simp [hasK, hasB]
theorem hasB_length (r : Rc) : (hasB r).length = 12 := rfl
theorem hasK_length (r : Rc) (k : Nat) : (hasK r k).length = 12 := by simp [hasK, hasB]
theorem index_num (a0 a1 a2 a3 a4 a5 a6 a7 : Int) (k : Nat) (h : k < 8) (w : World) : (Instr.index 138 (.agg #[.int .i64 a0, .int .i64 a1, .int .i64 a2, .int .i64 a3, .int .i64 a4, .int .i64 a5, .int .i64 a6, .int .i64 a7]) (.int .i64 (k : Int))).run Tryz.prog w = .ok (.int .i64 (([a0, a1, a2, a3, a4, a5, a6, a7][k]?).getD 0)) w := by
 rcases lt8 h with rfl | rfl | rfl | rfl | rfl | rfl | rfl | rfl
 ·kernel_rfl
 ·kernel_rfl
 ·kernel_rfl
 ·kernel_rfl
 ·kernel_rfl
 ·kernel_rfl
 ·kernel_rfl
 ·kernel_rfl
theorem index_get (r : Rc) (k : Nat) (h : k < 8) (w : World) : (Instr.index 138 (.agg #[.int .i64 r.node, .int .i64 r.count, .int .i64 r.num, .int .i64 r.cell, .int .i64 r.status, .int .i64 r.hop, .int .i64 r.version, .int .i64 r.value]) (.int .i64 (k : Int))).run Tryz.prog w = .ok (.int .i64 (r.get k)) w :=
 index_num _ _ _ _ _ _ _ _ k h w
end Go.Proofs.YtalhbblmnahcdaaGreat.Rec
