/-
  What every law's proof of this seat shares: a law that answers true and turns nothing below its own blocks keeps its row's promise; how a slice of texts is opened. Conditions: none of its own.
  Whole structs by value, read and written at once (over the kit's laws of ranges), for blocks whose first cells are known. No program is named.
  Conditions: none.
-/
import Derived.Test.YtccdpgbmkiapdaaRows
import Derived.WalkKit
import Derived.ProofKit
import Derived.OpenShut
import Derived.SizedLaws
import Derived.SliceStrings
import Derived.Test.YtccdpgbmkiapdaaL1
import Derived.Deep.MidRow
import Derived.Tactics
import Derived.Great.BuildSlice
namespace Go.Proofs.Ytccdpgbmkiapdaa.Base
open Go.ChangeShapes Go.WideShapes Go.ChangeAt Go.RowKit
theorem own : ownKnob Try.prog.godebug = none := by kernel_rfl
theorem laidOut : laidOutB Try.prog = true := by kernel_rfl
/-- A world for the witness of a row that lists no variable: the settled one. -/
noncomputable def plainWorld (os : Os) : World := World.holding Try.prog os ⟨#[], #[], []⟩
section
variable {H : Type} {enc : TypeId × Value → H} {P : Program}
theorem trodAll_below (hl : laidOutB P = true) {W W' : World} (hb : Below W.heap.size W W') : ∀ {ts : List TypeId} {vs : List Value} {ds : List (DataW H)} {ps : List MemPlace},
  (∀ t ∈ ts, P.readableRec t = true ∧ t < P.types.size) → DataW.TrodAll enc P W 0 (fun _ => true) true ts vs ds ps → (∀ x ∈ ps, x.block < W.heap.size) →
  DataW.TrodAll enc P W' 0 (fun b => decide (b < W.heap.size)) true ts vs ds ps := by
 intro ts
 induction ts with
 | nil =>
  intro vs ds ps _ h _
  obtain ⟨rfl, rfl, rfl⟩ := trodAll_nil h
  exact trodAll_mk0
 | cons t ts ih =>
  intro vs ds ps hr h hlt
  obtain ⟨v, vs', d, ds', p, q, rfl, rfl, rfl, h0, r0⟩ := trodAll_cons h
  obtain ⟨h1, h2⟩ := hr t (List.mem_cons_self ..)
  exact trodAll_cons_mk (Below.trod hl h1 h2 h0 hb fun x hx => hlt x (List.mem_append_left _ hx)) (ih (fun t ht => hr t (List.mem_cons_of_mem _ ht)) r0 fun x hx => hlt x (List.mem_append_right _ hx))
/-- A law's end: it answered true, and nothing that was there has turned. -/
theorem law_post {f : Func} {s : ChangeSpec} {apart fresh handsOn : Bool} {W W' : World} {args : Array Value} {ds gs : List (DataW H)} {before : List MemPlace} {tb : TypeId}
  (hl : laidOutB P = true) (hr : f.params.toList.all (fun t => P.readableRec t && decide (t < P.types.size)) = true) (hres : f.resultTypes = #[tb]) (htb : P.underlying tb = some .bool) (hvars : s.vars = [])
  (hfn : ∀ l : List (DataW H), l.length = f.params.size → s.fn H (l ++ []) = { results := [.lit (.bool true)], args := l }) (hlen : ds.length = f.params.size)
  (hW : DataW.Whole enc P f.params.toList s.vars apart W args.toList ds gs before) (hb : Below W.heap.size W W') :
  s.post enc P f apart fresh handsOn false W args (.bool true) W' := by
 have hW0 := hW
 obtain ⟨p, q, hA, hV, rfl, _, _⟩ := hW
 rw [hvars] at hV
 obtain ⟨rfl, rfl⟩ := trodVars_none hV
 have hlt : ∀ x ∈ p, x.block < W.heap.size := fun x hx => by simpa using hW0.lt x (List.mem_append_left _ hx)
 have e := hfn ds hlen
 refine ⟨ds, [], _, [], p, [], hW0, ?_, ?_, ?_, hb.frame _, fun h => by cases h⟩
 ·rw [e, hres]
  exact trodAll_mk1 (shut_bool htb true)
 ·rw [e]
  exact trodAll_below hl hb (fun t ht => by simpa using List.all_eq_true.1 hr t ht) hA hlt
 ·rw [e, hvars]
  rfl
theorem weightsAll_mem {e : TypeId} : ∀ {l : List (DataW H)} {d : DataW H}, d ∈ l → ∀ n ∈ d.weights P e, n ∈ DataW.weightsAll P e l
 | d' :: r, d, hd, n, hn => by
  simp only [DataW.weightsAll, List.mem_append]
  rcases List.mem_cons.1 hd with rfl | h
  ·exact Or.inl hn
  ·exact Or.inr (weightsAll_mem h n hn)
/-- A datum all of whose texts, slices and maps are within the reach. -/
def Small (P : Program) (t : TypeId) (d : DataW H) : Prop := ∀ n ∈ d.weights P t, n ≤ reachBytes
theorem small_of {ts : List TypeId} {ds : List (DataW H)} (h : (DataW.weightsEach P ts ds).all (· ≤ reachBytes) = true) {j : Nat} {t : TypeId} {d : DataW H} (ht : ts[j]? = some t) (hd : ds[j]? = some d) : Small P t d :=
 fun n hn => by simpa using List.all_eq_true.1 h n (DataW.weights_mem_each ht hd n hn)
theorem Small.elem {t e : TypeId} {es sp : List (DataW H)} {d : DataW H} (h : Small P t (.slice es sp)) (hu : P.underlying t = some (.slice e)) (hm : d ∈ es) : Small P e d := fun n hn => by
 refine h n ?_
 simp only [DataW.weights, hu]
 exact List.mem_cons_of_mem _ (List.mem_append_left _ (weightsAll_mem hm n hn))
theorem Small.part {t : TypeId} {fs : Array Field} {parts : List (DataW H)} {j : Nat} {f : Field} {d : DataW H} (h : Small P t (.agg parts)) (hu : P.underlying t = some (.struct fs)) (hf : fs[j]? = some f) (hp : parts[j]? = some d) : Small P f.type d := fun n hn => by
 refine h n ?_
 simp only [DataW.weights, hu]
 exact DataW.weights_mem_each (j := j) (by simp [hf]) hp n hn
theorem Small.text {t : TypeId} {bs : List UInt8} (h : Small P t (.lit (.string bs) : DataW H)) : bs.length ≤ 140737488351232 := h bs.length (by simp [DataW.weights])
theorem Small.length {t e : TypeId} {es sp : List (DataW H)} (h : Small P t (.slice es sp)) (hu : P.underlying t = some (.slice e)) : (es.length + sp.length) * P.bytesOf e ≤ 140737488351232 := h _ (by simp [DataW.weights, hu])
end
end Go.Proofs.Ytccdpgbmkiapdaa.Base
namespace Go.Proofs.Ytccdpgbmkiapdaa.Mem
open Go.RowKit
variable {P : Program}
theorem Cells.range {w : World} {g : Nat} {t : TypeId} {vs : List Value} (h : Cells w g t vs) : w.rangeAt g 0 vs := fun j v hv => by rw [Nat.zero_add]; exact h.cell hv
theorem Cells.there {w : World} {g : Nat} {t : TypeId} {vs : List Value} (h : Cells w g t vs) {n : Nat} (hn : n ≤ vs.length) : w.there g 0 n := fun j hj => by
 rw [Nat.zero_add]
 exact ⟨by rw [h.cell (List.getElem?_eq_getElem (show j < vs.length by omega))]; rfl, h.frozen (by omega)⟩
/-- A part of a block's cells is written. -/
theorem Cells.put_at {g : Nat} {t : TypeId} : ∀ (l : List Value) (o : Nat) {w : World} {vs : List Value}, Cells w g t vs → o + l.length ≤ vs.length →
  Cells (w.setCells g o l) g t (vs.take o ++ (l ++ vs.drop (o + l.length))) ∧ Only (fun k => k = g) w (w.setCells g o l)
 | [], o, w, vs, h, _ => ⟨by rw [show w.setCells g o [] = w from rfl]; simpa using h, Only.refl _ _⟩
 | v :: r, o, w, vs, h, hl => by
  rw [List.length_cons] at hl
  obtain ⟨h1, h2⟩ := Cells.put_at r (o + 1) (h.set_ o v) (by rw [List.length_set]; omega)
  refine ⟨?_, (Only.of_set w ⟨g, o, none⟩ v).trans h2 fun _ _ e => e⟩
  have e1 : (vs.set o v).take (o + 1) = vs.take o ++ [v] := by
   rw [List.take_succ_eq_append_getElem (by rw [List.length_set]; omega), List.take_set_of_le (Nat.le_refl _)]
   simp
  have e2 : (vs.set o v).drop (o + 1 + r.length) = vs.drop (o + (r.length + 1)) := by
   rw [List.drop_set_of_lt (by omega)]
   congr 1
   omega
  rw [e1, e2] at h1
  rw [List.length_cons]
  show Cells ((w.setCell ⟨g, o, none⟩ v).setCells g (o + 1) r) g t _
  simpa using h1
theorem Cells.put {w : World} {g : Nat} {t : TypeId} {vs l : List Value} (h : Cells w g t vs) (hl : l.length = vs.length) : Cells (w.setCells g 0 l) g t l ∧ Only (fun k => k = g) w (w.setCells g 0 l) := by
 obtain ⟨h1, h2⟩ := Cells.put_at l 0 h (by omega)
 refine ⟨?_, h2⟩
 rw [List.drop_of_length_le (by omega)] at h1
 simpa using h1
/-- A struct is loaded. -/
theorem Cells.load {w : World} {g : Nat} {t : TypeId} {vs : List Value} (h : Cells w g t vs) (ty : TypeId) (d : TypeDesc) (hu : P.underlying ty = some d) (hd : d.isRow = true) (hi : (P.info? ty).map (·.size) = some vs.length) :
  (loadVar ty ⟨g, 0, none⟩).run P w = .ok (.agg vs.toArray) w := run_loadVar_mid w g 0 ty vs d h.range hu hd hi
/-- What is returned: a struct's variable. -/
theorem ret_cell {fn : Func} {p : Tmp} {ty : TypeId} (hf : fn.results = #[.cell p ty]) (tmps : Array Value) {w : World} {g : Nat} {t : TypeId} {vs : List Value} (h : Cells w g t vs) (d : TypeDesc)
  (hp : tmps.getD p undef = .pointer (some ⟨g, 0, none⟩)) (hu : P.underlying ty = some d) (hd : d.isRow = true) (hi : (P.info? ty).map (·.size) = some vs.length) :
  (results fn tmps).run P w = .ok (.agg vs.toArray) w := by
 have hp' : tmps[p]?.getD undef = .pointer (some ⟨g, 0, none⟩) := by simpa using hp
 have hl := h.load (P := P) ty d hu hd hi
 simp [results, hf, hp', asAddr, hl]
end Go.Proofs.Ytccdpgbmkiapdaa.Mem
