/-
  Layer 8: what the calls on a state's variable share: a step, single places, structs loaded and stored within regions.
  Conditions: none.
-/
import Derived.Test.YtalhbblmnahcdaaGreatPa15
import Derived.Test.YtalhbblmnahcdaaGreatPa21
import Derived.Test.YtalhbblmnahcdaaGreatPa23
namespace Go.Proofs.YtalhbblmnahcdaaGreat.Led
set_option maxRecDepth 100000
open Go.RowKit Go.Deep Go.Proofs.YtalhbblmnahcdaaGreat.Mem Go.Proofs.YtalhbblmnahcdaaGreat.Item Go.Proofs.YtalhbblmnahcdaaGreat.Rec
/-- What a call on a state's variable does. -/
def Step (base b : Nat) (_s : St) (y : Sy) (w : World) (s' : St) (w' : World) : Prop := ∃ y', Own base w' b s' y' ∧ Only (turf b y) w w' ∧ ∀ k, turf b y' k → turf b y k ∨ w.heap.size ≤ k
section
variable {base b : Nat} {s s' s2 : St} {y : Sy} {w w1 w2 w' : World}
theorem Step.same (h : Own base w' b s y) (hb : Below w.heap.size w w') : Step base b s y w s w' := ⟨y, h, Only.of_below hb, fun _ e => Or.inl e⟩
theorem Step.next {y1 : Sy} (h1 : Own base w1 b s' y1) (ho : Only (turf b y) w w1) (hg : ∀ k, turf b y1 k → turf b y k ∨ w.heap.size ≤ k) (h : Step base b s' y1 w1 s2 w2) : Step base b s y w s2 w2 := by
  have _ := h1
  obtain ⟨y2, k1, k2, k3⟩ := h
  refine ⟨y2, k1, ho.trans k2 fun k hk e => (hg k e).resolve_right (by omega), fun k e => ?_⟩
  rcases k3 k e with e | e
  · exact hg k e
  · exact Or.inr (Nat.le_trans ho.size e)
theorem Step.before (hb : Below w.heap.size w w1) (h : Step base b s y w1 s' w') : Step base b s y w s' w' := by
  obtain ⟨y2, k1, k2, k3⟩ := h
  exact ⟨y2, k1, (Only.of_below hb).trans k2 fun _ _ e => e, fun k e => (k3 k e).imp_right fun h => Nat.le_trans hb.size h⟩
theorem Step.after (h : Step base b s y w s' w1) (hb : Below w1.heap.size w1 w') : Step base b s y w s' w' := by
  obtain ⟨y2, k1, k2, k3⟩ := h
  exact ⟨y2, k1.later hb, k2.trans (S' := fun _ => False) (Only.of_below hb) fun _ _ e => e.elim, k3⟩
theorem Step.below (h : Step base b s y w s' w') (ho : Own base w b s y) (hb : base ≤ w.heap.size) : Below base w w' := by
  obtain ⟨y2, _, k2, _⟩ := h
  exact k2.below hb fun k e => (ho.turf_lt e).1
theorem state_load (h : Own base w b s y) : (loadVar 32 ⟨b, 0, none⟩).run Tryz.prog w = .ok (s.val y) w := (h.cel.load (P := Tryz.prog) 32 _ Tryz.underlying32 rfl (by kernel_rfl)).trans rfl
end
theorem calls_bool {f : FuncId} {args : Array Value} {w : World} {x c : Bool} (h : Calls Tryz.prog f args w fun e w' => e = .returned (.bool x) ∧ Below w.heap.size w w') (hx : x = c) : Calls Tryz.prog f args w fun e w' => e = .returned (.bool c) ∧ Below w.heap.size w w' := by subst hx; exact h
/-- A struct is stored within a region. -/
theorem exec_store {P : Program} {ρ : Operand → Value} {o : Oper} (ty : TypeId) (x u : Operand) (ho : o.op = .store ty x u) (b off : Nat) (cells : Array Value) (hx : ρ x = .pointer (some ⟨b, off, none⟩)) (hu : ρ u = .agg cells) {w w' : World} (hrun : (storeVar ty ⟨b, off, none⟩ (.agg cells)).run P w = .ok () w') :
    (execOp ρ o).run P w = .ok .skip w' := by
  unfold execOp
  simp only [ho, hx, hu, Instr.storeAt, Instr.sureAddr, Sem.run_bind, Sem.run_pure, Result.andThen_ok, hrun]
theorem heap_setCells {w : World} {g : Nat} {t : TypeId} : ∀ (l : List Value) (o : Nat) (cur : Array Value), w.heap[g]? = some (.cells cur t (0, 0)) → o + l.length ≤ cur.size → (∀ v ∈ l, v.oneCell' = true) → (w.setCells g o l).heap[g]? = some (.cells (over cur.toList o l).toArray t (0, 0)) := by
  intro l o cur hg hl h1
  have e1 := run_storeCells_at Tryz.prog g o t l 0 cur w hg (by simpa using hl) h1
  have e2 := run_storeCells_cells (P := Tryz.prog) g o l 0 w (fun j hj => by
      rw [cell_of_row _ _ _ _ _ _ hg, Nat.add_zero, Array.getElem?_eq_getElem (by omega)]; rfl)
    (fun j hj => by simp [World.frozen?, hg]) h1
  rw [e1] at e2
  have e3 := (Result.ok.injEq _ _ _ _).mp e2
  rw [show o + 0 = o from rfl] at e3
  rw [← e3.2]
  exact setRow_heap w g cur _ t _ hg
/-- A part of a row's cells is written. -/
theorem row_put {w : World} {B g n c sz o : Nat} {eT : TypeId} {xs l : List Value} (h : w.ownsRow B eT sz (.slice (some ⟨g, 0, none⟩) n c) n xs) (hl : o + l.length ≤ n * sz) (h1 : ∀ v ∈ l, v.oneCell' = true) :
    (w.setCells g o l).ownsRow B eT sz (.slice (some ⟨g, 0, none⟩) n c) n (over xs o l) ∧ Only (fun k => k = g) w (w.setCells g o l) ∧ w.there g o l.length := by
  rcases h.2 with ⟨e, _⟩ | ⟨g', cap, cur, e, k2, k3, k4, k5, k6, k7⟩
  · cases e
  · simp only [Value.slice.injEq, Option.some.injEq, Addr.mk.injEq] at e
    obtain ⟨⟨rfl, _, _⟩, _, rfl⟩ := e
    have hnc : n * sz ≤ c * sz := Nat.mul_le_mul_right _ k4
    have hcl : cur.toList.length = c * sz := by simpa using k6
    have hle : (over cur.toList o l).length = c * sz := by rw [over_len (by omega), hcl]
    refine ⟨⟨?_, Or.inr ⟨g, c, _, rfl, k2, heap_setCells l o cur k3 (by omega) h1, k4, k5, ?_, ?_⟩⟩, ?_, fun j hj => ?_⟩
    · rw [over_len (by rw [h.1]; omega), h.1]
    · rw [List.size_toArray]; exact hle
    · rw [← k7]
      show (over cur.toList o l).take (n * sz) = _
      unfold over
      rw [List.append_assoc, List.append_assoc, List.take_append, List.take_append, List.take_take, List.take_take, List.drop_take, List.take_of_length_le (l := l) (by simp; omega)]
      simp only [List.length_take]
      congr 2
      · rw [Nat.min_eq_right (by omega), Nat.min_eq_left (by omega)]
      · congr 1
        omega
    · have hc : Cells w g eT (cur.toList) := ⟨cur, 0, 0, k3, fun j u hu => by simpa using hu, fun j _ hj => by omega⟩
      exact (hc.put_at l o (by omega)).2
    · refine ⟨?_, by simp [World.frozen?, k3]⟩
      rw [cell_of_row _ _ _ _ _ _ k3, Array.getElem?_eq_getElem (by omega)]
      rfl
theorem over_mid (A q Z : List Value) (o : Nat) (l : List Value) (h : o + l.length ≤ q.length) : over (A ++ (q ++ Z)) (A.length + o) l = A ++ (over q o l ++ Z) := by
  unfold over
  rw [List.take_length_add_append, List.take_append_of_le_length (by omega), Nat.add_assoc, List.drop_length_add_append, List.drop_append_of_le_length h]
  simp only [List.append_assoc]
theorem over_mid0 (A q Z m : List Value) (h : m.length = q.length) : over (A ++ (q ++ Z)) A.length m = A ++ (m ++ Z) := by
  have := over_mid A q Z 0 m (by omega)
  rw [Nat.add_zero] at this
  rw [this]
  unfold over
  rw [List.take_zero, List.nil_append, Nat.zero_add, List.drop_of_length_le (by omega), List.append_nil]
theorem over_at {sz k : Nat} {vs : List (List Value)} {x : List Value} (h : ∀ v ∈ vs, v.length = sz) (hx : x.length = sz) (hk : k < vs.length) : over vs.flatten (k * sz) x = (vs.set k x).flatten := by
  unfold over
  rw [flat_take h k (Nat.le_of_lt hk), hx, ← Nat.succ_mul, flat_drop h (k + 1) hk, List.set_eq_take_append_cons_drop, if_pos hk]
  simp
section
variable {base b : Nat} {s : St} {y : Sy} {w : World}
theorem Own.place (h : Own base w b s y) {c : Int} (hc : hasC s c = true) : ∃ (pb k : Nat) (pl : Pl), y.P = some ⟨pb, 0, none⟩ ∧ c = (k : Int) ∧ k < s.places.length ∧ s.places[k]? = some pl ∧ plAt s c = pl := by
  obtain ⟨h0, h1⟩ := (hasC_iff s c).1 hc
  obtain ⟨k, rfl⟩ := Int.eq_ofNat_of_zero_le h0
  have hk : k < s.places.length := by omega
  rcases h.lists.rowP.2 with ⟨_, h2⟩ | ⟨g, cap, cur, e, _⟩
  · omega
  · simp only [Value.slice.injEq] at e
    exact ⟨g, k, s.places[k], e.1, rfl, hk, List.getElem?_eq_getElem hk, plAt_nat s hk⟩
theorem Own.rowP (h : Own base w b s y) {pb : Nat} (hP : y.P = some ⟨pb, 0, none⟩) : w.ownsRow base 74 5 (.slice (some ⟨pb, 0, none⟩) s.places.length y.p) s.places.length (s.places.map Pl.vals).flatten := by rw [← hP]; exact h.lists.rowP
theorem Own.placeCell (h : Own base w b s y) {pb k : Nat} {pl : Pl} (hP : y.P = some ⟨pb, 0, none⟩) (hpl : s.places[k]? = some pl) {j : Nat} {v : Value} (hv : pl.vals[j]? = some v) : w.cell? ⟨pb, k * 5 + j, none⟩ = some v := by
  obtain ⟨hc, _⟩ := cells_of_own (h.rowP hP)
  have hk := (List.getElem?_eq_some_iff.1 hpl).1
  have hj : j < 5 := (List.getElem?_eq_some_iff.1 hv).1
  refine hc.cell ?_
  rw [flatten_at (sz := 5) (fit_places _).len k (by rw [List.length_map]; exact hk) j hj, List.getElem_map, ← hv, (List.getElem?_eq_some_iff.1 hpl).2]
theorem Own.placeFree (h : Own base w b s y) {pb k : Nat} (hP : y.P = some ⟨pb, 0, none⟩) (hk : k < s.places.length) {j : Nat} (hj : j < 5) : w.frozen? ⟨pb, k * 5 + j, none⟩ = false := by
  obtain ⟨hc, _⟩ := cells_of_own (h.rowP hP)
  refine hc.frozen ?_
  rw [flatten_len (fit_places _).len, List.length_map]
  have := Nat.mul_le_mul_right 5 hk
  omega
/-- Some cells of a place are written. -/
theorem Own.putCells (h : Own base w b s y) {pb k : Nat} (hP : y.P = some ⟨pb, 0, none⟩) (pl : Pl) (hk : k < s.places.length) (l : List Value) (o : Nat) (h1 : ∀ v ∈ l, v.oneCell' = true) (ho : o + l.length ≤ 5)
    (he : ∀ q, s.places[k]? = some q → over q.vals o l = pl.vals) : Own base (w.setCells pb (k * 5 + o) l) b { s with places := s.places.set k pl } y ∧ Only (fun k => some k = blk y.P) w (w.setCells pb (k * 5 + o) l) ∧ w.there pb (k * 5 + o) l.length := by
  have hle : k * 5 + o + l.length ≤ s.places.length * 5 := by have := Nat.mul_le_mul_right 5 hk; omega
  obtain ⟨r1, r2, r3⟩ := row_put (h.rowP hP) hle h1
  have hon : Only (fun k => some k = blk y.P) w (w.setCells pb (k * 5 + o) l) := r2.mono fun j _ e => by rw [hP, e]; rfl
  refine ⟨h.setP (l' := s.places.set k pl) hon (by rw [List.length_set]) ?_, hon, r3⟩
  rw [List.length_set, hP]
  have e : over (s.places.map Pl.vals).flatten (k * 5 + o) l = ((s.places.set k pl).map Pl.vals).flatten := by
    rw [List.map_set, ← over_at (sz := 5) (fit_places _).len rfl (by rw [List.length_map]; exact hk), ← he _ (List.getElem?_eq_getElem hk)]
    have hf := flatten_len (vs := s.places.map Pl.vals) (sz := 5) (fit_places _).len
    rw [List.length_map] at hf
    have hq : (s.places.map Pl.vals).flatten.drop (k * 5) = s.places[k].vals ++ (s.places.map Pl.vals).flatten.drop ((k + 1) * 5) := by
      rw [flat_drop (fit_places _).len k (by rw [List.length_map]; omega), flat_drop (fit_places _).len (k + 1) (by rw [List.length_map]; omega), List.drop_eq_getElem_cons (by rw [List.length_map]; exact hk), List.getElem_map, List.flatten_cons]
    have hs : (s.places.map Pl.vals).flatten = (s.places.map Pl.vals).flatten.take (k * 5) ++ (s.places[k].vals ++ (s.places.map Pl.vals).flatten.drop ((k + 1) * 5)) := by rw [← hq, List.take_append_drop]
    have hA : ((s.places.map Pl.vals).flatten.take (k * 5)).length = k * 5 := by rw [List.length_take]; omega
    generalize (s.places.map Pl.vals).flatten.take (k * 5) = A at hs hA
    generalize (s.places.map Pl.vals).flatten.drop ((k + 1) * 5) = Z at hs hq
    rw [hs, ← hA, over_mid A s.places[k].vals Z o l ho]
    rw [over_mid0 A s.places[k].vals Z (over s.places[k].vals o l) (over_len (show o + l.length ≤ s.places[k].vals.length from ho))]
  rw [← e]
  exact r1
end
end Go.Proofs.YtalhbblmnahcdaaGreat.Led
