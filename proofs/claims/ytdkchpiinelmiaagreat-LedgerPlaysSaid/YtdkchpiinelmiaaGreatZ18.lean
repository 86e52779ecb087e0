/- Part 18 of the proof. Conditions: none. -/
import Derived.Test.YtdkchpiinelmiaaGreatZ10
import Derived.Test.YtdkchpiinelmiaaGreatZ16
import Derived.Test.YtdkchpiinelmiaaGreatZ17
namespace Go.Proofs.YtdkchpiinelmiaaGreat.Led
set_option maxRecDepth 100000
open Go.RowKit Go.Deep Mem fN Rec
def Step (base b : Nat) (_s : St) (y : Sy) (w : World) (s' : St) (w' : World) : Prop := ∃ y', Own base w' b s' y' /\ Only (iw b y) w w' /\ ∀ k, iw b y' k -> iw b y k \/ w.heap.size <= k
section
variable {base b : Nat} {s s' s2 : St} {y : Sy} {w w1 w2 w' : World}
theorem Step.same (h : Own base w' b s y) (hb : Below w.heap.size w w') : Step base b s y w s w' := ⟨y, h, Only.of_below hb, fun _ e => Or.inl e⟩
theorem Step.next {y1 : Sy} (h1 : Own base w1 b s' y1) (ho : Only (iw b y) w w1) (hg : ∀ k, iw b y1 k -> iw b y k \/ w.heap.size <= k) (h : Step base b s' y1 w1 s2 w2) : Step base b s y w s2 w2 := by
  have _ := h1; obtain ⟨y2, k1, k2, k3⟩ := h; refine ⟨y2, k1, ho.trans k2 fun k hk e => (hg k e).resolve_right (by omega), fun k e => ?_⟩; rcases k3 k e with e | e
  · exact hg k e
  exact Or.inr (Nat.le_trans ho.size e)
theorem Step.before (hb : Below w.heap.size w w1) (h : Step base b s y w1 s' w') : Step base b s y w s' w' := by
  obtain ⟨y2, k1, k2, k3⟩ := h; exact ⟨y2, k1, (Only.of_below hb).trans k2 fun _ _ e => e, fun k e => (k3 k e).imp_right fun h => Nat.le_trans hb.size h⟩
theorem aS (h : Own base w b s y) : (loadVar 32 ⟨b, 0, none⟩).run Tryz.prog w = .ok (s.val y) w := (h.br.load (P := Tryz.prog) 32 _ Tryz.underlying32 rfl (by kernel_rfl)).trans rfl
end
theorem cG {f : FuncId} {args : Array Value} {w : World} {x c : Bool} (h : Calls Tryz.prog f args w fun e w' => e = .returned (.bool x) /\ Below w.heap.size w w') (hx : x = c) : Calls Tryz.prog f args w fun e w' => e = .returned (.bool c) /\ Below w.heap.size w w' := by subst hx; exact h
theorem eH {P : Program} {ρ : Operand -> Value} {o : Oper} (ty : TypeId) (x u : Operand) (ho : o.op = .store ty x u) (b off : Nat) (cells : Array Value) (hx : ρ x = .pointer (some ⟨b, off, none⟩)) (hu : ρ u = .agg cells) {w w' : World} (hrun : (storeVar ty ⟨b, off, none⟩ (.agg cells)).run P w = .ok () w') :
    (execOp ρ o).run P w = .ok .skip w' := by
  unfold execOp; simp only [ho, hx, hu, Instr.storeAt, Instr.sureAddr, Sem.run_bind, Sem.run_pure, Result.andThen_ok, hrun]
theorem uK {w : World} {g : Nat} {t : TypeId} : ∀ (l : List Value) (o : Nat) (cur : Array Value), w.heap[g]? = some (.cells cur t (0, 0)) -> o + l.length <= cur.size -> (∀ v ∈ l, v.oneCell' = true) -> (w.setCells g o l).heap[g]? = some (.cells (over cur.toList o l).toArray t (0, 0)) := by
  intro l o cur hg hl h1; have e1 := run_storeCells_at Tryz.prog g o t l 0 cur w hg (by simpa using hl) h1; have e2 := run_storeCells_cells (P := Tryz.prog) g o l 0 w (fun j hj => by
      rw [cell_of_row _ _ _ _ _ _ hg, Nat.add_zero, Array.getElem?_eq_getElem (by omega)]; rfl)
    (fun j hj => by simp [World.frozen?, hg]) h1
  rw [e1] at e2; have e3 := (Result.ok.injEq _ _ _ _).mp e2; rw [show o + 0 = o from rfl] at e3
  rw [<- e3.2]; exact setRow_heap w g cur _ t _ hg
theorem mo {w : World} {B g n c sz o : Nat} {eT : TypeId} {xs l : List Value} (h : w.ownsRow B eT sz (.slice (some ⟨g, 0, none⟩) n c) n xs) (hl : o + l.length <= n * sz) (h1 : ∀ v ∈ l, v.oneCell' = true) :
    (w.setCells g o l).ownsRow B eT sz (.slice (some ⟨g, 0, none⟩) n c) n (over xs o l) /\ Only (fun k => k = g) w (w.setCells g o l) /\ w.there g o l.length := by
  rcases h.2 with ⟨e, _⟩ | ⟨g', cap, cur, e, k2, k3, k4, k5, k6, k7⟩
  · cases e
  simp only [Value.slice.injEq, Option.some.injEq, Addr.mk.injEq] at e
  obtain ⟨⟨rfl, _, _⟩, _, rfl⟩ := e; have hnc : n * sz <= c * sz := Nat.mul_le_mul_right _ k4; have hcl : cur.toList.length = c * sz := by simpa using k6
  have hle : (over cur.toList o l).length = c * sz := by rw [dR (by omega), hcl]
  refine ⟨⟨?_, Or.inr ⟨g, c, _, rfl, k2, uK l o cur k3 (by omega) h1, k4, k5, ?_, ?_⟩⟩, ?_, fun j hj => ?_⟩
  · rw [dR (by rw [h.1]; omega), h.1]
  · rw [List.size_toArray]; exact hle
  · rw [<- k7]
    show (over cur.toList o l).take (n * sz) = _; unfold over; rw [List.append_assoc, List.append_assoc, List.take_append, List.take_append, List.take_take, List.take_take, List.drop_take, List.take_of_length_le (l := l) (by simp; omega)]; simp only [List.length_take]
    congr 2
    · rw [Nat.min_eq_right (by omega), Nat.min_eq_left (by omega)]
    congr 1
    omega
  · have hc : Cells w g eT (cur.toList) := ⟨cur, 0, 0, k3, fun j u hu => by simpa using hu, fun j _ hj => by omega⟩
    exact (hc.jm l o (by omega)).2
  refine ⟨?_, by simp [World.frozen?, k3]⟩
  rw [cell_of_row _ _ _ _ _ _ k3, Array.getElem?_eq_getElem (by omega)]
  rfl
theorem jE (A q Z : List Value) (o : Nat) (l : List Value) (h : o + l.length <= q.length) : over (A ++ (q ++ Z)) (A.length + o) l = A ++ (over q o l ++ Z) := by
  unfold over; rw [List.take_length_add_append, List.take_append_of_le_length (by omega), Nat.add_assoc, List.drop_length_add_append, List.drop_append_of_le_length h]; simp only [List.append_assoc]
theorem jH (A q Z m : List Value) (h : m.length = q.length) : over (A ++ (q ++ Z)) A.length m = A ++ (m ++ Z) := by
  have := jE A q Z 0 m (by omega); rw [Nat.add_zero] at this; rw [this]; unfold over; rw [List.take_zero, List.nil_append, Nat.zero_add, List.drop_of_length_le (by omega), List.append_nil]
theorem mq {sz k : Nat} {vs : List (List Value)} {x : List Value} (h : ∀ v ∈ vs, v.length = sz) (hx : x.length = sz) (hk : k < vs.length) : over vs.flatten (k * sz) x = (vs.set k x).flatten := by
  unfold over; rw [jJ h k (Nat.le_of_lt hk), hx, <- Nat.succ_mul, cN h (k + 1) hk, List.set_eq_take_append_cons_drop, if_pos hk]
  simp
section
variable {base b : Nat} {s : St} {y : Sy} {w : World}
theorem Own.place (h : Own base w b s y) {c : Int} (hc : bp s c = true) : ∃ (pb k : Nat) (pl : Pl), y.P = some ⟨pb, 0, none⟩ /\ c = (k : Int) /\ k < s.places.length /\ s.places[k]? = some pl /\ cw s c = pl := by
  obtain ⟨h0, h1⟩ := (iW s c).1 hc; obtain ⟨k, rfl⟩ := Int.eq_ofNat_of_zero_le h0; have hk : k < s.places.length := by omega
  rcases h.lists.rowP.2 with ⟨_, h2⟩ | ⟨g, cap, cur, e, _⟩
  · omega
  simp only [Value.slice.injEq] at e
  exact ⟨g, k, s.places[k], e.1, rfl, hk, List.getElem?_eq_getElem hk, kB s hk⟩
theorem Own.rowP (h : Own base w b s y) {pb : Nat} (hP : y.P = some ⟨pb, 0, none⟩) : w.ownsRow base 66 5 (.slice (some ⟨pb, 0, none⟩) s.places.length y.p) s.places.length (s.places.map Pl.vals).flatten := by rw [<- hP]; exact h.lists.rowP
theorem Own.bg (h : Own base w b s y) {pb k : Nat} {pl : Pl} (hP : y.P = some ⟨pb, 0, none⟩) (hpl : s.places[k]? = some pl) {j : Nat} {v : Value} (hv : pl.vals[j]? = some v) : w.cell? ⟨pb, k * 5 + j, none⟩ = some v := by
  obtain ⟨hc, _⟩ := cR (h.rowP hP); have hk := (List.getElem?_eq_some_iff.1 hpl).1; have hj : j < 5 := (List.getElem?_eq_some_iff.1 hv).1; refine hc.cell ?_; rw [eG (sz := 5) (aU _).len k (by rw [List.length_map]; exact hk) j hj, List.getElem_map, <- hv, (List.getElem?_eq_some_iff.1 hpl).2]
theorem Own.gP (h : Own base w b s y) {pb k : Nat} (hP : y.P = some ⟨pb, 0, none⟩) (hk : k < s.places.length) {j : Nat} (hj : j < 5) : w.frozen? ⟨pb, k * 5 + j, none⟩ = false := by
  obtain ⟨hc, _⟩ := cR (h.rowP hP); refine hc.frozen ?_; rw [aW (aU _).len, List.length_map]; have := Nat.mul_le_mul_right 5 hk
  omega
theorem Own.putCells (h : Own base w b s y) {pb k : Nat} (hP : y.P = some ⟨pb, 0, none⟩) (pl : Pl) (hk : k < s.places.length) (l : List Value) (o : Nat) (h1 : ∀ v ∈ l, v.oneCell' = true) (ho : o + l.length <= 5)
    (he : ∀ q, s.places[k]? = some q -> over q.vals o l = pl.vals) : Own base (w.setCells pb (k * 5 + o) l) b { s with places := s.places.set k pl } y /\ Only (fun k => some k = blk y.P) w (w.setCells pb (k * 5 + o) l) /\ w.there pb (k * 5 + o) l.length := by
  have hle : k * 5 + o + l.length <= s.places.length * 5 := by have := Nat.mul_le_mul_right 5 hk; omega
  obtain ⟨r1, r2, r3⟩ := mo (h.rowP hP) hle h1; have tU : Only (fun k => some k = blk y.P) w (w.setCells pb (k * 5 + o) l) := r2.mono fun j _ e => by rw [hP, e]; rfl
  refine ⟨h.Lu (l' := s.places.set k pl) tU (by rw [List.length_set]) ?_, tU, r3⟩; rw [List.length_set, hP]; have e : over (s.places.map Pl.vals).flatten (k * 5 + o) l = ((s.places.set k pl).map Pl.vals).flatten := by
    rw [List.map_set, <- mq (sz := 5) (aU _).len rfl (by rw [List.length_map]; exact hk), <- he _ (List.getElem?_eq_getElem hk)]; have hf := aW (vs := s.places.map Pl.vals) (sz := 5) (aU _).len; rw [List.length_map] at hf; have hq : (s.places.map Pl.vals).flatten.drop (k * 5) = s.places[k].vals ++ (s.places.map Pl.vals).flatten.drop ((k + 1) * 5) := by
      rw [cN (aU _).len k (by rw [List.length_map]; omega), cN (aU _).len (k + 1) (by rw [List.length_map]; omega), List.drop_eq_getElem_cons (by rw [List.length_map]; exact hk), List.getElem_map, List.flatten_cons]
    have hs : (s.places.map Pl.vals).flatten = (s.places.map Pl.vals).flatten.take (k * 5) ++ (s.places[k].vals ++ (s.places.map Pl.vals).flatten.drop ((k + 1) * 5)) := by rw [<- hq, List.take_append_drop]
    have hA : ((s.places.map Pl.vals).flatten.take (k * 5)).length = k * 5 := by rw [List.length_take]; omega
    generalize (s.places.map Pl.vals).flatten.take (k * 5) = A at hs hA
    generalize (s.places.map Pl.vals).flatten.drop ((k + 1) * 5) = Z at hs hq
    rw [hs, <- hA, jE A s.places[k].vals Z o l ho]; rw [jH A s.places[k].vals Z (over s.places[k].vals o l) (dR (show o + l.length <= s.places[k].vals.length from ho))]
  rw [<- e]; exact r1
end
def room (s : St) : Bool := decide (((s.ay.length : Int) + (s.dec.length : Int)) < 512)
def bJ (s : St) (c : Int) (p : Pl) : St := { s with places := s.places.set c.toNat p }
def gj (s : St) (r : Rc) : St × Int := if r.num <= s.epoch then (s, 10) else ({ s with epoch := r.num }, 0)
def vG (s : St) (r : Rc) : St × Int := if bp s r.cell = false then (s, 1) else if owns s r.cell = true then (s, 9) else if r.hop <= (cw s r.cell).hop then (s, 10) else (bJ s r.cell ⟨1, r.hop, 0, r.version, r.value⟩, 0)
def fY (s : St) (r : Rc) : St × Int := if bp s r.cell = false then (s, 1) else if (cw s r.cell).status ≠ 2 then (s, 8) else if r.hop ≠ (cw s r.cell).hop then (s, 10) else (bJ s r.cell ⟨0, r.hop, 0, 0, 0⟩, 0)
def eB (s : St) (r : Rc) : St × Int := if bp s r.cell = false then (s, 1) else if above s [r.node] = true then (s, 1) else if locked s r.cell = true then (s, 12) else (bJ s r.cell ⟨r.status, r.hop, r.node, r.version, r.value⟩, 0)
def EC (s : St) (r : Rc) (b : Nat) (g : Nat) : Nat -> Value -> World -> Prop := N.tb [.inl (.pointer (some ⟨g, 8, none⟩)), .inl (.int .i64 r.num), .inl (.pointer (some ⟨b, 0, none⟩)), .inl (.pointer (some ⟨b, 0, none⟩)), .inl (.pointer (some ⟨b, 3, none⟩)), .inl (.int .i64 s.epoch), .inl (.bool (decide (r.num <= s.epoch)))]
set_option maxHeartbeats 1000000 in
theorem Fh (s : St) (y : Sy) (r : Rc) (z : Lay) (base b : Nat) (w : World) (ho : Own base w b s y) (hh : Two w r.items r.nodes z) (hs : Small s) (hr : r.items.length <= 1000 /\ r.nodes.length <= 1000) :
  Calls Tryz.prog 56 #[(au b), r.val z] w fun e w' => e = .returned (iv (gj s r).2) /\ Step base b s y w (gj s r).1 w' := by
 obtain ⟨wb, hwb⟩ := aj (w.alloc (.cells #[iv r.kind, iv r.tid.node, iv r.tid.epoch, iv r.tid.seq, .slice z.A r.items.length z.c, .slice z.B r.nodes.length z.d, iv r.node, iv r.count, iv r.num, iv r.cell, iv r.status, iv r.hop, iv r.version, iv r.value, .bool r.yes] 51)); have hb : Below w.heap.size w wb := by rw [hwb]; exact av _ _
 have bG := ak (ho.later hb); have bh : Hid (Cells wb w.heap.size 51 (r.vals z)) := ak (by rw [hwb]; exact aB _ _ _ _ rfl); have bI := ak (hh.later hb); have bH := ak hb; have dU := ak hs; have dP := ak hr; obtain ⟨F, hF⟩ := ah (gj s r); have HF := ak hF.symm; rw [hF]; unfold Rc.val; clear ho hh hs hr hb hF
 go_enter Tryz.func56, Tryz.ntmps56
 go_wp2_with fail
 rw [<- hwb]; clear hwb; refine N.rb 6 [6] (EC s r b w.heap.size) wb (fun V => [(some 5, V 0), (some 6, V 1), (some 7, V 2), (some 8, V 3), (some 9, V 4), (some 10, V 5), (some 11, V 6)]) ?_ ?_
 ·intro i o ho
  have hi : i < 7 := (Array.getElem?_eq_some_iff.1 ho).1; rcases i with _ | _ | _ | _ | _ | _ | _ | i
  rotate_right
  ·omega
  all_goals obtain rfl := Option.some.inj ho
  all_goals intro ρ wi hE hI hs hd
  all_goals try dsimp only at hI
  ·have e3 : ρ (.tmp 3) = (au w.heap.size) := hs 3; exact N.gw hI
  ·obtain ⟨_, rfl, e5⟩ := hd 0 5; have x0 := (bh.o.later hI).cell (j := 8) rfl; exact N.gw hI
  ·have e0 : ρ (.tmp 0) = (au b) := hs 0; exact N.gw hI
  ·obtain ⟨_, rfl, e7⟩ := hd 2 7; exact N.gw hI
  ·obtain ⟨_, rfl, e8⟩ := hd 3 8; exact N.gw hI
  ·obtain ⟨_, rfl, e9⟩ := hd 4 9; have x0 := (bG.o.later hI).br.cell (j := 3) rfl; exact N.gw hI
  obtain ⟨_, rfl, e6⟩ := hd 1 6; obtain ⟨_, rfl, e10⟩ := hd 5 10; exact N.gw hI
 intro V wc hV hI
 have qU : V 6 = .bool (decide (r.num <= s.epoch)) := hV 6 (by decide) rfl; simp only [N.aP, List.foldl_cons, List.foldl_nil, Act.put, List.setIfInBounds_toArray, List.set_cons_succ, List.set_cons_zero, qU]; replace hI : (fun a => Below wb.heap.size wb a) wc := hI; clear hV qU; have aR := ak (bG.o.later hI); have bO := ak (bh.o.later hI); have cB := ak (bI.o.later hI); have bB := ak (bH.o.trans (hI.mono bH.o.size)); clear hI
 by_cases h1 : r.num <= s.epoch
 ·have bf : Hid (F = (s, 10)) := ak (by rw [HF.o]; exact if_pos h1)
  go_wp2_with fail
  go_returns
  exact ⟨aL (by rw [bf.o]), by rw [bf.o]; exact Step.same aR.o bB.o⟩
 have bf : Hid (F = ({ s with epoch := r.num }, 0)) := ak (by rw [HF.o]; exact if_neg h1)
 have hc := bO.o; unfold Rc.vals at hc; have x8 := hc.cell (j := 8) rfl; have hq := aR.o.br; unfold St.vals at hq; have q3 := hq.cell (j := 3) rfl; have q4 := hq.frozen (j := 3) (by simp); have HN : Hid (Own base (wc.setCell ⟨b, 3, none⟩ (iv r.num)) b { s with epoch := r.num } y /\ Only (fun k => k = b) wc (wc.setCell ⟨b, 3, none⟩ (iv r.num))) := ak ⟨aR.o.put (Only.b_ _ ⟨b, 3, none⟩ _) (aR.o.br.fB 3 _) rfl rfl rfl rfl, Only.b_ _ ⟨b, 3, none⟩ _⟩; clear hc hq
 go_wp2_with fail
 go_returns
 exact ⟨aL (by rw [bf.o]), by rw [bf.o]; exact ⟨y, HN.o.1, (Only.of_below bB.o).trans HN.o.2 fun k _ e => Or.inl e, fun k e => Or.inl e⟩⟩
def Ew (s : St) (y : Sy) (r : Rc) (b : Nat) (g : Nat) : Nat -> Value -> World -> Prop := N.tb [.inl (.pointer (some ⟨b, 0, none⟩)), .inl (.pointer (some ⟨b, 0, none⟩)), .inl (s.val y), .inl (.pointer (some ⟨g, 9, none⟩)), .inl (.int .i64 r.cell), .inl (.bool false), .inl (.bool true), .inl (.bool true), .inl (undef), .inl (undef), .inl (undef), .inl (undef), .inl (undef), .inl (undef), .inl (undef), .inl (.bool true), .inl (.bool true)]
def qM (s : St) (y : Sy) (r : Rc) (b : Nat) (g : Nat) : Nat -> Value -> World -> Prop := N.tb [.inl (.pointer (some ⟨b, 0, none⟩)), .inl (.pointer (some ⟨b, 0, none⟩)), .inl (s.val y), .inl (.pointer (some ⟨g, 9, none⟩)), .inl (.int .i64 r.cell), .inl (.bool true), .inl (.bool false), .inl (.bool false), .inl (.pointer (some ⟨b, 0, none⟩)), .inl (.pointer (some ⟨b, 0, none⟩)), .inl (s.val y), .inl (.pointer (some ⟨g, 6, none⟩)), .inl (.int .i64 r.node), .inr fun v w => ∃ kk, v = .slice (some ⟨kk, 0, none⟩) 1 1 /\ Cells w kk 3 ([r.node].map (Value.int .i64)), .inl (.bool (above s [r.node])), .inl (.bool (above s [r.node])), .inl (.bool (above s [r.node]))]
theorem iC {s : St} {y : Sy} {r : Rc} {b : Nat} {g : Nat} {j : Nat} {v : Value} {w w' : World} (hb : Below w.heap.size w w') (h : qM s y r b g j v w) : qM s y r b g j v w' := by
 refine N.gA ?_ h; refine And.intro (fun v h => ?_) ?_
 ·obtain ⟨kk, h1, h2⟩ := h
  exact ⟨kk, h1, h2.later hb⟩
 exact trivial
def Hv (s : St) (y : Sy) (r : Rc) (b : Nat) (g : Nat) : Nat -> Value -> World -> Prop := N.tb [.inl (.pointer (some ⟨b, 0, none⟩)), .inl (.pointer (some ⟨b, 0, none⟩)), .inl (s.val y), .inl (.pointer (some ⟨g, 9, none⟩)), .inl (.int .i64 r.cell), .inl (.bool (locked s r.cell)), .inl (.bool (locked s r.cell))]
def sO (s : St) (y : Sy) (r : Rc) (b : Nat) (g : Nat) (pb : Nat) (k : Nat) : Nat -> Value -> World -> Prop := N.tb [.inl (.pointer (some ⟨b, 0, none⟩)), .inl (.pointer (some ⟨b, 0, none⟩)), .inl (.pointer (some ⟨b, 4, none⟩)), .inl (.slice y.P s.places.length y.p), .inl (.pointer (some ⟨g, 9, none⟩)), .inl (.int .i64 r.cell), .inl (.pointer (some ⟨g, 10, none⟩)), .inl (.int .i64 r.status), .inl (.pointer (some ⟨g, 11, none⟩)), .inl (.int .i64 r.hop), .inl (.pointer (some ⟨g, 6, none⟩)), .inl (.int .i64 r.node), .inl (.pointer (some ⟨g, 12, none⟩)), .inl (.int .i64 r.version), .inl (.pointer (some ⟨g, 13, none⟩)), .inl (.int .i64 r.value), .inl (.agg #[.int .i64 r.status, .int .i64 r.hop, .int .i64 r.node, .int .i64 r.version, .int .i64 r.value]), .inl (.pointer (some ⟨pb, k * 5, none⟩)), .inr fun _ _ => True]
theorem uF {s : St} {y : Sy} {r : Rc} {b : Nat} {g : Nat} {pb : Nat} {k : Nat} {j : Nat} {v : Value} {w w' : World}  (h : sO s y r b g pb k j v w) : sO s y r b g pb k j v w' := by
 match j, h with
 | 0, h | 1, h | 2, h | 3, h | 4, h | 5, h | 6, h | 7, h | 8, h | 9, h | 10, h | 11, h | 12, h | 13, h | 14, h | 15, h | 16, h | 17, h | 18, h => exact h
 | _ + 19, _ => exact trivial
set_option maxHeartbeats 2000000 in
theorem El (s : St) (y : Sy) (r : Rc) (z : Lay) (base b : Nat) (w : World) (ho : Own base w b s y) (hh : Two w r.items r.nodes z) (hs : Small s) (hr : r.items.length <= 1000 /\ r.nodes.length <= 1000) :
  Calls Tryz.prog 57 #[(au b), r.val z] w fun e w' => e = .returned (iv (eB s r).2) /\ Step base b s y w (eB s r).1 w' := by
 obtain ⟨wb, hwb⟩ := aj (w.alloc (.cells #[iv r.kind, iv r.tid.node, iv r.tid.epoch, iv r.tid.seq, .slice z.A r.items.length z.c, .slice z.B r.nodes.length z.d, iv r.node, iv r.count, iv r.num, iv r.cell, iv r.status, iv r.hop, iv r.version, iv r.value, .bool r.yes] 51)); have hb : Below w.heap.size w wb := by rw [hwb]; exact av _ _
 have bG := ak (ho.later hb); have bh : Hid (Cells wb w.heap.size 51 (r.vals z)) := ak (by rw [hwb]; exact aB _ _ _ _ rfl); have bI := ak (hh.later hb); have bH := ak hb; have dU := ak hs; have dP := ak hr; obtain ⟨F, hF⟩ := ah (eB s r); have HF := ak hF.symm; rw [hF]; unfold Rc.val; clear ho hh hs hr hb hF
 go_enter Tryz.func57, Tryz.ntmps57
 go_wp2_with fail
 rw [<- hwb]; clear hwb
 cases hh : bp s r.cell with
 | false =>
  have uS := ak hh; clear hh; refine N.rb 16 [16] (Ew s y r b w.heap.size) wb (fun V => [(some 6, V 0), (some 7, V 1), (some 8, V 2), (some 9, V 3), (some 10, V 4), (some 11, V 5), (some 12, V 6), (some 13, V 7), (some 14, V 8), (some 15, V 9), (some 16, V 10), (some 17, V 11), (some 18, V 12), (some 19, V 13), (some 20, V 14), (some 21, V 15), (some 5, V 16)]) ?_ ?_
  ·intro i o ho
   have hi : i < 17 := (Array.getElem?_eq_some_iff.1 ho).1; rcases i with _ | _ | _ | _ | _ | _ | _ | _ | _ | _ | _ | _ | _ | _ | _ | _ | _ | i
   rotate_right
   ·omega
   all_goals obtain rfl := Option.some.inj ho
   all_goals intro ρ wi hE hI hs hd
   all_goals try dsimp only at hI
   ·have e0 : ρ (.tmp 0) = (au b) := hs 0; exact N.gw hI
   ·obtain ⟨_, rfl, e6⟩ := hd 0 6; exact N.gw hI
   ·obtain ⟨_, rfl, e7⟩ := hd 1 7
    exact N.Gives.value (v := s.val y) (w' := wi) (aQ _ _ rfl _ _ (by assumption) (aS (bG.o.later hI))) (N.bA.same hI rfl)
   ·have e3 : ρ (.tmp 3) = (au w.heap.size) := hs 3; exact N.gw hI
   ·obtain ⟨_, rfl, e9⟩ := hd 3 9; have x0 := (bh.o.later hI).cell (j := 9) rfl; exact N.gw hI
   ·obtain ⟨_, rfl, e8⟩ := hd 2 8; obtain ⟨_, rfl, e10⟩ := hd 4 10; have hf := hE.func
    refine N.Gives.call (f := 36) (args := #[s.val y, iv r.cell]) (w' := wi) (by go_simp) ?_; refine (cG (fF s y r.cell wi) uS.o).mono ?_; rintro e w'' ⟨rfl, hbb⟩; exact ⟨_, rfl, ⟨rfl, hI.trans (hbb.mono hI.size), fun j u _ _ h => N.tz h⟩⟩
   ·obtain ⟨_, rfl, e11⟩ := hd 5 11; exact N.gw hI
   ·obtain ⟨_, rfl, e12⟩ := hd 6 12; exact N.gw hI
   iterate 7 ·exact N.no hI
   ·obtain ⟨_, rfl, l5⟩ := hd 7 13; obtain ⟨_, rfl, wL⟩ := hd 14 20; have hc := hE.const; exact N.gw hI
   obtain ⟨_, rfl, ug⟩ := hd 15 21; exact N.gw hI
  intro V wc hV hI
  have jz : V 16 = .bool true := hV 16 (by decide) rfl; simp only [N.aP, List.foldl_cons, List.foldl_nil, Act.put, List.setIfInBounds_toArray, List.set_cons_succ, List.set_cons_zero, jz]; replace hI : (fun a => Below wb.heap.size wb a) wc := hI; clear hV jz; have aR := ak (bG.o.later hI); have bO := ak (bh.o.later hI); have cB := ak (bI.o.later hI); have bB := ak (bH.o.trans (hI.mono bH.o.size)); clear hI; have bf : Hid (F = (s, 1)) := ak (by rw [HF.o]; exact if_pos uS.o)
  go_wp2_with fail
  go_returns
  exact ⟨aL (by rw [bf.o]), by rw [bf.o]; exact Step.same aR.o bB.o⟩
 | true =>
  have lg := ak hh; clear hh; refine N.rb 16 [16] (qM s y r b w.heap.size) wb (fun V => [(some 6, V 0), (some 7, V 1), (some 8, V 2), (some 9, V 3), (some 10, V 4), (some 11, V 5), (some 12, V 6), (some 13, V 7), (some 14, V 8), (some 15, V 9), (some 16, V 10), (some 17, V 11), (some 18, V 12), (some 19, V 13), (some 20, V 14), (some 21, V 15), (some 5, V 16)]) ?_ ?_
  ·intro i o ho
   have hi : i < 17 := (Array.getElem?_eq_some_iff.1 ho).1; rcases i with _ | _ | _ | _ | _ | _ | _ | _ | _ | _ | _ | _ | _ | _ | _ | _ | _ | i
   rotate_right
   ·omega
   all_goals obtain rfl := Option.some.inj ho
   all_goals intro ρ wi hE hI hs hd
   all_goals try dsimp only at hI
   all_goals (have e0 : ρ (.tmp 0) = (au b) := hs 0; have e3 : ρ (.tmp 3) = (au w.heap.size) := hs 3; have hf := hE.func)
   ·exact N.gw hI
   ·obtain ⟨_, rfl, e6⟩ := hd 0 6; exact N.gw hI
   ·obtain ⟨_, rfl, e7⟩ := hd 1 7
    exact N.Gives.value (v := s.val y) (w' := wi) (aQ _ _ rfl _ _ (by assumption) (aS (bG.o.later hI))) (N.bA.same hI rfl)
   ·exact N.gw hI
   ·obtain ⟨_, rfl, e9⟩ := hd 3 9; have x0 := (bh.o.later hI).cell (j := 9) rfl; exact N.gw hI
   ·obtain ⟨_, rfl, e8⟩ := hd 2 8; obtain ⟨_, rfl, e10⟩ := hd 4 10
    refine N.Gives.call (f := 36) (args := #[s.val y, iv r.cell]) (w' := wi) (by go_simp) ?_; refine (cG (fF s y r.cell wi) lg.o).mono ?_; rintro e w'' ⟨rfl, hbb⟩; exact ⟨_, rfl, ⟨rfl, hI.trans (hbb.mono hI.size), fun j u _ _ h => iC hbb h⟩⟩
   ·obtain ⟨_, rfl, e11⟩ := hd 5 11; exact N.gw hI
   ·obtain ⟨_, rfl, e12⟩ := hd 6 12; exact N.gw hI
   ·refine N.yes ?_
    exact N.gw hI
   ·obtain ⟨_, rfl, mZ⟩ := hd 8 14
    refine N.yes ?_; exact N.gw hI
   ·obtain ⟨_, rfl, mY⟩ := hd 9 15
    refine N.yes ?_; exact N.Gives.value (v := s.val y) (w' := wi) (aQ _ _ rfl _ _ (by assumption) (aS (bG.o.later hI))) (N.bA.same hI rfl)
   ·refine N.yes ?_
    exact N.gw hI
   ·obtain ⟨_, rfl, e17⟩ := hd 11 17
    refine N.yes ?_; have x0 := (bh.o.later hI).cell (j := 6) rfl; exact N.gw hI
   ·obtain ⟨_, rfl, e18⟩ := hd 12 18
    refine N.yes ?_; have hal := av wi (.cells #[iv r.node] 3); exact N.Gives.value (v := .slice (some ⟨wi.heap.size, 0, none⟩) 1 1) (w' := wi.alloc (.cells #[iv r.node] 3)) (by go_simp) ⟨⟨_, rfl, aB wi _ _ _ rfl⟩, hI.trans (hal.mono hI.size), fun j u _ _ h => iC hal h⟩
   ·obtain ⟨_, rfl, e16⟩ := hd 10 16; obtain ⟨u19, g19, e19⟩ := hd 13 19
    refine N.yes ?_; obtain ⟨kk, rfl, gH⟩ := g19; refine N.Gives.call (f := 89) (args := #[s.val y, .slice (some ⟨kk, 0, none⟩) 1 1]) (w' := wi) (by go_simp) ?_; refine (fH s y (some ⟨kk, 0, none⟩) [r.node] 1 wi (fun j hj => ⟨kk, 0, rfl, eI gH j hj⟩) (by simp)).mono ?_; rintro e w'' ⟨rfl, hbb⟩; exact ⟨_, rfl, ⟨rfl, hI.trans (hbb.mono hI.size), fun j u _ _ h => iC hbb h⟩⟩
   ·obtain ⟨_, rfl, l5⟩ := hd 7 13; obtain ⟨_, rfl, wL⟩ := hd 14 20; have hc := hE.const; exact N.gw hI
   obtain ⟨_, rfl, ug⟩ := hd 15 21; exact N.gw hI
  intro V wc hV hI
  have jz : V 16 = .bool (above s [r.node]) := hV 16 (by decide) rfl; simp only [N.aP, List.foldl_cons, List.foldl_nil, Act.put, List.setIfInBounds_toArray, List.set_cons_succ, List.set_cons_zero, jz]; replace hI : (fun a => Below wb.heap.size wb a) wc := hI; clear hV jz; have aR := ak (bG.o.later hI); have bO := ak (bh.o.later hI); have cB := ak (bI.o.later hI); have bB := ak (bH.o.trans (hI.mono bH.o.size)); clear hI
  cases ha : above s [r.node] with
  | true =>
   have HA := ak ha; clear ha; have bf : Hid (F = (s, 1)) := ak (by rw [HF.o]; unfold eB; rw [lg.o, HA.o]; rfl)
   go_wp2_with fail
   go_returns
   exact ⟨aL (by rw [bf.o]), by rw [bf.o]; exact Step.same aR.o bB.o⟩
  | false =>
   have HA := ak ha; clear ha
   go_upto_region 3 with (fail)
   refine N.rb 6 [6] (Hv s y r b w.heap.size) wc (fun V => [(some 23, V 0), (some 24, V 1), (some 25, V 2), (some 26, V 3), (some 27, V 4), (some 28, V 5), (some 22, V 6)]) ?_ ?_
   ·intro i o ho
    have hi : i < 7 := (Array.getElem?_eq_some_iff.1 ho).1; rcases i with _ | _ | _ | _ | _ | _ | _ | i
    rotate_right
    ·omega
    all_goals obtain rfl := Option.some.inj ho
    all_goals intro ρ wi hE hI hs hd
    all_goals try dsimp only at hI
    ·have e0 : ρ (.tmp 0) = (au b) := hs 0; exact N.gw hI
    ·obtain ⟨_, rfl, Fu⟩ := hd 0 23; exact N.gw hI
    ·obtain ⟨_, rfl, DL⟩ := hd 1 24
     exact N.Gives.value (v := s.val y) (w' := wi) (aQ _ _ rfl _ _ (by assumption) (aS (aR.o.later hI))) (N.bA.same hI rfl)
    ·have e3 : ρ (.tmp 3) = (au w.heap.size) := hs 3; exact N.gw hI
    ·obtain ⟨_, rfl, zj⟩ := hd 3 26; have x0 := (bO.o.later hI).cell (j := 9) rfl; exact N.gw hI
    ·obtain ⟨_, rfl, DK⟩ := hd 2 25; obtain ⟨_, rfl, Bn⟩ := hd 4 27; have hf := hE.func
     refine N.Gives.call (f := 15) (args := #[s.val y, iv r.cell]) (w' := wi) (by go_simp) ?_; refine (j6 s y r.cell wi (aR.o.later hI).sees ⟨Nat.le_trans dU.o.ay (by decide), fun p hp => Nat.le_trans (dU.o.pin p hp).1 (by decide)⟩).mono ?_; rintro e w'' ⟨rfl, hbb⟩; exact ⟨_, rfl, ⟨rfl, hI.trans (hbb.mono hI.size), fun j u _ _ h => N.tz h⟩⟩
    obtain ⟨_, rfl, Bl⟩ := hd 5 28; exact N.gw hI
   intro V wd hV hI
   have qU : V 6 = .bool (locked s r.cell) := hV 6 (by decide) rfl; simp only [N.aP, List.foldl_cons, List.foldl_nil, Act.put, List.setIfInBounds_toArray, List.set_cons_succ, List.set_cons_zero, qU]; replace hI : (fun a => Below wc.heap.size wc a) wd := hI; clear hV qU; have cu := ak (aR.o.later hI); have fT := ak (bO.o.later hI); have jR := ak (cB.o.later hI); have ez := ak (bB.o.trans (hI.mono bB.o.size)); clear hI
   cases hl : locked s r.cell with
   | true =>
    have HL := ak hl; clear hl; have bf : Hid (F = (s, 12)) := ak (by rw [HF.o]; unfold eB; rw [lg.o, HA.o, HL.o]; rfl)
    go_wp2_with fail
    go_returns
    exact ⟨aL (by rw [bf.o]), by rw [bf.o]; exact Step.same cu.o ez.o⟩
   | false =>
    have HL := ak hl; clear hl; obtain ⟨pb, k, pl, hP, hk, hkl, hpl, _⟩ := cu.o.place lg.o; have dX := ak (And.intro hP (And.intro hk (And.intro hkl hpl))); have bf : Hid (F = ({ s with places := s.places.set k ⟨r.status, r.hop, r.node, r.version, r.value⟩ }, 0)) := ak (by rw [HF.o]; unfold eB bJ; rw [lg.o, HA.o, HL.o, hk]; rfl); clear hP hk hkl hpl
    go_upto_region 5 with (fail)
    refine N.fI (by kernel_rfl) 18 [] (sO s y r b w.heap.size pb k) (fun a => Below wd.heap.size wd a) (fun a' => Own base a' b { s with places := s.places.set k ⟨r.status, r.hop, r.node, r.version, r.value⟩ } y /\ Only (fun j => some j = blk y.P) wd a') (fun V => [(some 29, V 0), (some 30, V 1), (some 31, V 2), (some 32, V 3), (some 33, V 4), (some 34, V 5), (some 35, V 6), (some 36, V 7), (some 37, V 8), (some 38, V 9), (some 39, V 10), (some 40, V 11), (some 41, V 12), (some 42, V 13), (some 43, V 14), (some 44, V 15), (some 45, V 16), (some 46, V 17), (none, V 18)]) (by kernel_rfl) (by kernel_rfl) (by kernel_rfl) (fun V => rfl) ?_ ?_ ?_
    ·exact (Below.refl _ _).drew
    ·intro i o ho
     have hi : i < 19 := (Array.getElem?_eq_some_iff.1 ho).1; rcases i with _ | _ | _ | _ | _ | _ | _ | _ | _ | _ | _ | _ | _ | _ | _ | _ | _ | _ | _ | i
     rotate_right
     ·omega
     all_goals obtain rfl := Option.some.inj ho
     all_goals intro ρ wi hE hI hs hd
     all_goals try dsimp only at hI
     all_goals (have e3 : ρ (.tmp 3) = (au w.heap.size) := hs 3)
     ·have e0 : ρ (.tmp 0) = (au b) := hs 0; exact N.gw hI
     ·obtain ⟨_, rfl, wK⟩ := hd 0 29; exact N.gw hI
     ·obtain ⟨_, rfl, e30⟩ := hd 1 30; exact N.gw hI
     ·obtain ⟨_, rfl, uQ⟩ := hd 2 31; have x0 := (cu.o.later hI).br.cell (j := 4) rfl; exact N.gw hI
     ·exact N.gw hI
     ·obtain ⟨_, rfl, Bk⟩ := hd 4 33; have x0 := (fT.o.later hI).cell (j := 9) rfl; exact N.gw hI
     ·exact N.gw hI
     ·obtain ⟨_, rfl, r9⟩ := hd 6 35; have x0 := (fT.o.later hI).cell (j := 10) rfl; exact N.gw hI
     ·exact N.gw hI
     ·obtain ⟨_, rfl, zi⟩ := hd 8 37; have x0 := (fT.o.later hI).cell (j := 11) rfl; exact N.gw hI
     ·exact N.gw hI
     ·obtain ⟨_, rfl, e39⟩ := hd 10 39; have x0 := (fT.o.later hI).cell (j := 6) rfl; exact N.gw hI
     ·exact N.gw hI
     ·obtain ⟨_, rfl, zA⟩ := hd 12 41; have x0 := (fT.o.later hI).cell (j := 12) rfl; exact N.gw hI
     ·exact N.gw hI
     ·obtain ⟨_, rfl, uP⟩ := hd 14 43; have x0 := (fT.o.later hI).cell (j := 13) rfl; exact N.gw hI
     ·obtain ⟨_, rfl, r8⟩ := hd 7 36; obtain ⟨_, rfl, e38⟩ := hd 9 38; obtain ⟨_, rfl, wS⟩ := hd 11 40; obtain ⟨_, rfl, DJ⟩ := hd 13 42; obtain ⟨_, rfl, uO⟩ := hd 15 44; exact N.gw hI
     ·obtain ⟨_, rfl, zB⟩ := hd 3 32; obtain ⟨_, rfl, Bj⟩ := hd 5 34; have hP := dX.o.1; have hk := dX.o.2.1; have hkl := dX.o.2.2.1; exact N.gw hI
     obtain ⟨_, rfl, F4⟩ := hd 17 46; obtain ⟨_, rfl, DI⟩ := hd 16 45
     obtain ⟨k1, k2, k3⟩ := (cu.o.later hI).putCells dX.o.1 ⟨r.status, r.hop, r.node, r.version, r.value⟩ dX.o.2.2.1 [iv r.status, iv r.hop, iv r.node, iv r.version, iv r.value] 0 (by simp [Value.oneCell']) (Nat.le_refl _) (fun q _ => rfl); exact N.Gives.skip (eH 66 _ _ rfl pb (k * 5) #[iv r.status, iv r.hop, iv r.node, iv r.version, iv r.value] (by assumption) (by assumption) (run_storeVar_mid _ pb (k * 5) 66 #[iv r.status, iv r.hop, iv r.node, iv r.version, iv r.value] k3 (by kernel_rfl) (by simp [Value.oneCell']))) ⟨trivial, ⟨k1, (Only.of_below hI).trans k2 fun _ _ e => e⟩, fun _ _ _ _ h => uF h⟩
    intro V we hV hI
    simp only [N.aP, List.foldl_cons, List.foldl_nil, Act.put, List.setIfInBounds_toArray, List.set_cons_succ, List.set_cons_zero]; replace hI : (fun a' => Own base a' b { s with places := s.places.set k ⟨r.status, r.hop, r.node, r.version, r.value⟩ } y /\ Only (fun j => some j = blk y.P) wd a') we := hI; clear hV; have HN := ak hI; clear hI
    go_wp2_with fail
    go_returns
    exact ⟨aL (by rw [bf.o]), by rw [bf.o]; exact ⟨y, HN.o.1, (Only.of_below ez.o).trans HN.o.2 fun _ _ e => Or.inr (Or.inl e), fun k e => Or.inl e⟩⟩
