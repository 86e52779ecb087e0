/-
  Rows of structs: what lies in a slice of them, append to one of the call's own, a part of one written over. No program is named.
  Conditions: none.
-/
import Derived.Test.YtjeogeablbkhgaaP2
import Derived.Test.YtjeogeablbkhgaaP3
import Derived.Deep.Slices
import Derived.Test.YtjeogeablbkhgaaP4
import Derived.Lib.AppendZeros
import Derived.Lib.BufferMore
import Derived.Maps.AppendAt
import Derived.Deep.MidRow
namespace Go.Proofs.Ytjeogeablbkhgaa.Mem
set_option maxRecDepth 100000
open Go.RowKit Go.Deep
/-- A slice of structs of sz cells: their cells lie there. -/
def Sl (w : World) (A : Option Addr) (sz : Nat) (vs : List (List Value)) : Prop := ∀ k (h : k < vs.length), ∃ b off, A = some ⟨b, off, none⟩ ∧ w.rangeAt b (off + k * sz) vs[k]
theorem range_later {w w' : World} {b o : Nat} {cs : List Value} (h : w.rangeAt b o cs) (hb : Below w.heap.size w w') : w'.rangeAt b o cs := fun j v hv => (hb.cell (block_of_cell (h j v hv))).trans (h j v hv)
theorem Sl.later {w w' : World} {A : Option Addr} {sz : Nat} {vs : List (List Value)} (h : Sl w A sz vs) (hb : Below w.heap.size w w') : Sl w' A sz vs := fun k hk => by
 obtain ⟨b, off, e, hr⟩ := h k hk
 exact ⟨b, off, e, range_later hr hb⟩
theorem sl_nil (w : World) (A : Option Addr) (sz : Nat) : Sl w A sz [] := fun k hk => absurd hk (by simp)
/-- Structs of sz cells each. -/
structure Fit (sz : Nat) (vs : List (List Value)) : Prop where
 len : ∀ v ∈ vs, v.length = sz
 one : ∀ v ∈ vs, ∀ u ∈ v, u.oneCell' = true
theorem Fit.nil (sz : Nat) : Fit sz [] := ⟨fun v hv => (by cases hv), fun v hv => (by cases hv)⟩
theorem Fit.app {sz : Nat} {us vs : List (List Value)} (h : Fit sz us) (k : Fit sz vs) : Fit sz (us ++ vs) :=
 ⟨fun v hv => by rcases List.mem_append.1 hv with h1 | h1; exact h.len v h1; exact k.len v h1, fun v hv => by rcases List.mem_append.1 hv with h1 | h1; exact h.one v h1; exact k.one v h1⟩
theorem flatten_len {sz : Nat} : ∀ {vs : List (List Value)}, (∀ v ∈ vs, v.length = sz) → vs.flatten.length = vs.length * sz
 | [], _ => by simp
 | v :: vs, h => by
  rw [List.flatten_cons, List.length_append, h v List.mem_cons_self, flatten_len fun x hx => h x (List.mem_cons_of_mem _ hx), List.length_cons, Nat.succ_mul]
  omega
theorem flatten_at {sz : Nat} : ∀ {vs : List (List Value)}, (∀ v ∈ vs, v.length = sz) → ∀ (k : Nat) (hk : k < vs.length) (j : Nat), j < sz → vs.flatten[k * sz + j]? = vs[k][j]?
 | [], _, k, hk, _, _ => by simp at hk
 | v :: vs, h, k, hk, j, hj => by
  have hv := h v List.mem_cons_self
  rw [List.flatten_cons]
  cases k with
  | zero => rw [Nat.zero_mul, Nat.zero_add, List.getElem?_append_left (by omega)]; rfl
  | succ k =>
   have e : (k + 1) * sz + j - v.length = k * sz + j := by rw [hv, Nat.succ_mul]; omega
   rw [List.getElem?_append_right (by rw [hv, Nat.succ_mul]; omega), e, flatten_at (fun x hx => h x (List.mem_cons_of_mem _ hx)) k (by simpa using hk) j hj]
   rfl
theorem flatten_one {sz : Nat} {vs : List (List Value)} (h : Fit sz vs) : ∀ u ∈ vs.flatten, u.oneCell' = true := fun u hu => by
 obtain ⟨v, hv, hx⟩ := List.mem_flatten.1 hu
 exact h.one v hv u hx
theorem sl_cell {w : World} {ad : Addr} {sz : Nat} {vs : List (List Value)} (h : Sl w (some ad) sz vs) (hf : ∀ v ∈ vs, v.length = sz) (hs : 0 < sz) {j : Nat} {u : Value} (hu : vs.flatten[j]? = some u) : w.cell? (ad.add j) = some u := by
 have hj : j < vs.length * sz := by
  have := (List.getElem?_eq_some_iff.1 hu).1
  rwa [flatten_len hf] at this
 have hk : j / sz < vs.length := (Nat.div_lt_iff_lt_mul hs).2 hj
 obtain ⟨b, off, e, hr⟩ := h (j / sz) hk
 obtain rfl := Option.some.inj e
 have hje : j / sz * sz + j % sz = j := by rw [Nat.mul_comm]; exact Nat.div_add_mod j sz
 have h2 := flatten_at hf (j / sz) hk (j % sz) (Nat.mod_lt _ hs)
 rw [hje, hu] at h2
 have h3 := hr (j % sz) u h2.symm
 rw [Addr.add_mid]
 rw [Nat.add_assoc, hje] at h3
 exact h3
/-- A slice type, its elements' type, their cells and bytes. -/
structure Elem (sT eT : TypeId) (z : Value) (sz bytes : Nat) : Prop where
 slice : Try.prog.underlying sT = some (.slice eT)
 info : (Try.prog.info? eT).map (fun i => (i.zero, i.size, i.bytes)) = some (some z, sz, bytes)
 zero : z.cells.size = sz
 pos : 0 < sz
 small : bytes ≤ 100
/-- What append makes of a row of the call's own and of a slice of structs. -/
theorem run_append_rows {sT eT : TypeId} {z : Value} {sz bytes : Nat} (E : Elem sT eT z sz bytes) (w : World) (ty : TypeId) (base : Nat) (v : Value) (us bs : List (List Value)) (A : Option Addr) (c : Nat) (_hus : Fit sz us) (hbs : Fit sz bs)
  (hown : w.ownsRow base eT sz v us.length us.flatten) (hr : Sl w A sz bs) (hA : A = none → c = 0) (hn : us.length + bs.length ≤ 200000) (hbase : base ≤ w.heap.size) :
  ∃ v' w', (Builtin.append_ #[sT, sT] ty #[v, .slice A bs.length c]).run Try.prog w = .ok v' w' ∧ w'.ownsRow base eT sz v' (us ++ bs).length (us ++ bs).flatten ∧ w.grownBy w' v.ownBlock ∧ (v'.ownBlock = v.ownBlock ∨ v'.ownBlock = some w.heap.size) := by
 obtain ⟨i0, hi, hz0, hz1, hz2⟩ := info_parts E.info
 have hb100 := E.small
 match A, hr, hA with
 | none, hr, hA =>
  have hb : bs = [] := by
   match bs, hr with
   | [], _ => rfl
   | b :: r, hr => obtain ⟨_, _, h, _⟩ := hr 0 (by simp); cases h
  subst hb
  obtain rfl := hA rfl
  refine ⟨v, w, ?_, by simpa using hown, World.grownBy.refl w _, Or.inl rfl⟩
  exact run_append_owned_none (P := Try.prog) (w := w) base sT ty eT i0 sz E.slice hi v us.length us.flatten hown
 | some ad, hr, _ =>
  obtain ⟨v', w', h1, h2, h3, _, h5⟩ := run_append_own_at (P := Try.prog) w base sT ty eT i0 z sz bytes E.slice hi hz0 hz1 hz2 E.zero E.pos v us.length us.flatten hown
   ad bs.length c bs.flatten (flatten_len hbs.len) (fun j u hu => sl_cell hr hbs.len E.pos hu) (flatten_one hbs) (by unfold maxLen; omega) (by have := Nat.mul_le_mul hn hb100; omega) hbase
  exact ⟨v', w', h1, by rw [List.length_append, List.flatten_append]; exact h2, h3, h5⟩
/-- A row of the call's own is a slice that can be read. -/
theorem cells_of_own {w : World} {base g n c sz : Nat} {eT : TypeId} {xs : List Value} (h : w.ownsRow base eT sz (.slice (some ⟨g, 0, none⟩) n c) n xs) : Cells w g eT xs ∧ n ≤ c ∧ base ≤ g := by
 rcases h.2 with ⟨h1, _⟩ | ⟨g', cap, cur, h1, h2, h3, h4, h5, h6, h7⟩
 ·cases h1
 ·simp only [Value.slice.injEq, Option.some.injEq, Addr.mk.injEq] at h1
  obtain ⟨⟨rfl, _, _⟩, _, rfl⟩ := h1
  refine ⟨⟨cur, 0, 0, h3, fun j u hu => ?_, fun j _ hj => by omega⟩, h4, h2⟩
  rw [← h7, List.getElem?_take] at hu
  split at hu
  ·simpa using hu
  ·cases hu
theorem cells_sl {w : World} {g sz : Nat} {eT : TypeId} {vs : List (List Value)} (h : Cells w g eT vs.flatten) (hf : ∀ v ∈ vs, v.length = sz) : Sl w (some ⟨g, 0, none⟩) sz vs := fun k hk => by
 refine ⟨g, 0, rfl, fun j v hv => ?_⟩
 have hj : j < sz := by
  have := (List.getElem?_eq_some_iff.1 hv).1
  rwa [hf _ (List.getElem_mem hk)] at this
 rw [Nat.zero_add]
 exact h.cell (by rw [flatten_at hf k hk j hj]; exact hv)
theorem own_sl {w : World} {base sz : Nat} {eT : TypeId} {v : Value} {vs : List (List Value)} (h : w.ownsRow base eT sz v vs.length vs.flatten) (hf : ∀ v ∈ vs, v.length = sz) : ∃ A c, v = .slice A vs.length c ∧ Sl w A sz vs ∧ (A = none → c = 0) ∧ ∀ g, v.ownBlock = some g → base ≤ g := by
 rcases h.2 with ⟨h1, h2⟩ | ⟨g, c, cur, h1, h2, _⟩
 ·have hv : vs = [] := List.length_eq_zero_iff.1 h2
  subst hv
  exact ⟨none, 0, h1, sl_nil _ _ _, fun _ => rfl, fun g hg => (by rw [h1] at hg; cases hg)⟩
 ·subst h1
  exact ⟨_, c, rfl, cells_sl (cells_of_own h).1 hf, fun e => (by cases e), fun g' hg => (by cases hg; exact h2)⟩
theorem sl_none {w : World} {sz : Nat} {vs : List (List Value)} (h : Sl w none sz vs) : vs = [] := by
 match vs, h with
 | [], _ => rfl
 | b :: r, h => obtain ⟨_, _, e, _⟩ := h 0 (by simp); cases e
def blk (A : Option Addr) : Option Nat := A.map (·.block)
theorem own_blk (A : Option Addr) (n c : Nat) : (Value.slice A n c).ownBlock = blk A := by cases A <;> rfl
/-- A row of a later call is one of an earlier call, too. -/
theorem own_up {w : World} {B B' n sz : Nat} {eT : TypeId} {v : Value} {xs : List Value} (hb : B ≤ B') (h : w.ownsRow B' eT sz v n xs) : w.ownsRow B eT sz v n xs := by
 refine ⟨h.1, ?_⟩
 rcases h.2 with hx | ⟨g, cap, cur, h1, h2, h3⟩
 ·exact Or.inl hx
 ·exact Or.inr ⟨g, cap, cur, h1, Nat.le_trans hb h2, h3⟩
theorem row_slice {w : World} {B n sz : Nat} {eT : TypeId} {v : Value} {xs : List Value} (h : w.ownsRow B eT sz v n xs) : ∃ A c, v = .slice A n c := by
 rcases h.2 with ⟨h1, h2⟩ | ⟨g, cap, cur, h1, _⟩
 ·exact ⟨none, 0, by rw [h1, h2]⟩
 ·exact ⟨_, _, h1⟩
theorem own_later {w w' : World} {B n sz : Nat} {eT : TypeId} {v : Value} {xs : List Value} (h : w.ownsRow B eT sz v n xs) (hb : Below w.heap.size w w') : w'.ownsRow B eT sz v n xs := row_only h (Only.of_below (S := fun _ => False) hb) fun _ _ e => e
/-- A list over whose cells from o on others are laid. -/
def over (l : List Value) (o : Nat) (m : List Value) : List Value := l.take o ++ m ++ l.drop (o + m.length)
theorem over_eq (l : List Value) (o : Nat) (m : List Value) : over l o m = l.take o ++ m ++ l.drop (o + m.length) := rfl
theorem over_len {l m : List Value} {o : Nat} (h : o + m.length ≤ l.length) : (over l o m).length = l.length := by unfold over; simp; omega
theorem heap_setCells {w : World} {g : Nat} {t : TypeId} : ∀ (l : List Value) (o : Nat) (cur : Array Value), w.heap[g]? = some (.cells cur t (0, 0)) → o + l.length ≤ cur.size → (∀ v ∈ l, v.oneCell' = true) → (w.setCells g o l).heap[g]? = some (.cells (over cur.toList o l).toArray t (0, 0)) := by
 intro l o cur hg hl h1
 have e1 := run_storeCells_at Try.prog g o t l 0 cur w hg (by simpa using hl) h1
 have e2 := run_storeCells_cells (P := Try.prog) g o l 0 w (fun j hj => by
   rw [cell_of_row _ _ _ _ _ _ hg, Nat.add_zero, Array.getElem?_eq_getElem (by omega)]; rfl)
  (fun j hj => by simp [World.frozen?, hg]) h1
 rw [e1] at e2
 have e3 := (Result.ok.injEq _ _ _ _).mp e2
 rw [show o + 0 = o from rfl] at e3
 rw [← e3.2]
 exact setRow_heap w g cur _ t _ hg
/-- A part of a row's cells is written. -/
theorem row_put {w : World} {B g n c sz o : Nat} {eT : TypeId} {xs l : List Value} (h : w.ownsRow B eT sz (.slice (some ⟨g, 0, none⟩) n c) n xs) (hl : o + l.length ≤ n * sz) (h1 : ∀ v ∈ l, v.oneCell' = true) :
  (w.setCells g o l).ownsRow B eT sz (.slice (some ⟨g, 0, none⟩) n c) n (over xs o l) ∧ Only (fun k => k = g) w (w.setCells g o l) ∧ w.there g o l.length := by
 rcases h.2 with ⟨e, _⟩ | ⟨g', cap, cur, e, k2, k3, k4, k5, k6, k7⟩
 ·cases e
 ·simp only [Value.slice.injEq, Option.some.injEq, Addr.mk.injEq] at e
  obtain ⟨⟨rfl, _, _⟩, _, rfl⟩ := e
  have hnc : n * sz ≤ c * sz := Nat.mul_le_mul_right _ k4
  have hcl : cur.toList.length = c * sz := by simpa using k6
  have hle : (over cur.toList o l).length = c * sz := by rw [over_len (by omega), hcl]
  refine ⟨⟨?_, Or.inr ⟨g, c, _, rfl, k2, heap_setCells l o cur k3 (by omega) h1, k4, k5, ?_, ?_⟩⟩, ?_, fun j hj => ?_⟩
  ·rw [over_len (by rw [h.1]; omega), h.1]
  ·rw [List.size_toArray]; exact hle
  ·rw [← k7]
   show (over cur.toList o l).take (n * sz) = _
   unfold over
   rw [List.append_assoc, List.append_assoc, List.take_append, List.take_append, List.take_take, List.take_take, List.drop_take, List.take_of_length_le (l := l) (by simp; omega)]
   simp only [List.length_take]
   congr 2
   ·rw [Nat.min_eq_right (by omega), Nat.min_eq_left (by omega)]
   ·congr 1
    omega
  ·have hc : Cells w g eT (cur.toList) := ⟨cur, 0, 0, k3, fun j u hu => by simpa using hu, fun j _ hj => by omega⟩
   exact (hc.put_at l o (by omega)).2
  ·refine ⟨?_, by simp [World.frozen?, k3]⟩
   rw [cell_of_row _ _ _ _ _ _ k3, Array.getElem?_eq_getElem (by omega)]
   rfl
end Go.Proofs.Ytjeogeablbkhgaa.Mem
