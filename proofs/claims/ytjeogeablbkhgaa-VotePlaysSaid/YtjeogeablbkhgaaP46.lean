/-
  Maps of the call's own: which values stand at which keys (a relation), whatever the entries' order. No program is named.
  Conditions: none.
-/
import Derived.Test.YtjeogeablbkhgaaP2
import Derived.Maps.Keyed
import Derived.Maps.Own
import Derived.WideKeyEntry
import Derived.DeepKeys5
namespace Go.Proofs.Ytjeogeablbkhgaa.Mem
open Go.RowKit Go.ChangeMaps Go.MapKept
open Go.Maps (Keyed)
/-- Block b is a map of at most n entries, in which just those values stand at those keys that R says. -/
def KM (P : Program) (kt : TypeId) (w : World) (b n : Nat) (R : Value → Value → Prop) : Prop :=
 ∃ es clock, w.heap[b]? = some (.map es clock) ∧ es.size ≤ n ∧ Stamped es clock ∧ (∀ x ∈ es.toList, ∃ l, keyOf P kt x.key = some l) ∧ ∀ k v, (∃ x ∈ es.toList, x.key = k ∧ x.val = v) ↔ R k v
variable {P : Program} {kt : TypeId} {w w' : World} {b n : Nat} {R : Value → Value → Prop}
theorem KM.lt (h : KM P kt w b n R) : b < w.heap.size := by
 obtain ⟨es, clock, hb, _⟩ := h
 exact lt_of_block hb
theorem KM.only {S : Nat → Prop} (h : KM P kt w b n R) (ho : Only S w w') (hn : ¬ S b) : KM P kt w' b n R := by
 have hl := h.lt
 obtain ⟨es, clock, hb, hr⟩ := h
 exact ⟨es, clock, (ho.block b hl hn).trans hb, hr⟩
theorem KM.later (h : KM P kt w b n R) (hb : Below w.heap.size w w') : KM P kt w' b n R := h.only (Only.of_below (S := fun _ => False) hb) fun e => e
theorem KM.congr {R' : Value → Value → Prop} {n' : Nat} (h : KM P kt w b n R) (hR : ∀ k v, R k v ↔ R' k v) (hn : n ≤ n') : KM P kt w b n' R' := by
 obtain ⟨es, clock, hb, h1, h2, h3, h4⟩ := h
 exact ⟨es, clock, hb, Nat.le_trans h1 hn, h2, h3, fun k v => (h4 k v).trans (hR k v)⟩
theorem only_block (w : World) (b : Nat) (o : Obj) : Only (fun k => k = b) w (setBlock w b o) := by
 refine ⟨rfl, rfl, rfl, by simp [setBlock], fun k _ hn => ?_⟩
 show (w.heap.setIfInBounds b o)[k]? = _
 rw [Array.getElem?_setIfInBounds, if_neg (fun e => hn e.symm)]
theorem stamped_one {es : Array MapEntry} {clock : Nat} (h : Stamped es clock) {x y : MapEntry} (hx : x ∈ es.toList) (hy : y ∈ es.toList) (e : x.key = y.key) : x = y := by
 have hp := ((stamped_iff es clock).1 h).2.2
 obtain ⟨i, hi, rfl⟩ := List.getElem_of_mem hx
 obtain ⟨j, hj, rfl⟩ := List.getElem_of_mem hy
 rcases Nat.lt_trichotomy i j with hlt | rfl | hlt
 ·exact absurd e (List.pairwise_iff_getElem.1 hp i j hi hj hlt)
 ·rfl
 ·exact absurd e.symm (List.pairwise_iff_getElem.1 hp j i hj hi hlt)
/-- One value at a key. -/
theorem KM.one (h : KM P kt w b n R) {k u v : Value} (hu : R k u) (hv : R k v) : u = v := by
 obtain ⟨es, clock, hb, h1, h2, h3, h4⟩ := h
 obtain ⟨x, hx, ex, rfl⟩ := (h4 k u).2 hu
 obtain ⟨y, hy, ey, rfl⟩ := (h4 k v).2 hv
 rw [stamped_one h2 hx hy (ex.trans ey.symm)]
section
variable {t e : TypeId} (K : Keyed P kt) (ht : P.underlying t = some (.map kt e))
include K ht
/-- 'm[k]'. -/
theorem KM.look (h : KM P kt w b n R) {z : Value} (hz : (zeroValue e).run P w = .ok z w) {key : Value} {kl : Lit} (hkey : keyOf P kt key = some kl) (c : Bool) :
  (∃ v, R key v ∧ (Instr.lookup t (.map (some b)) key c).run P w = .ok (if c then .tuple #[v, .bool true] else v) w) ∨
  ((∀ v, ¬ R key v) ∧ (Instr.lookup t (.map (some b)) key c).run P w = .ok (if c then .tuple #[z, .bool false] else z) w) := by
 obtain ⟨es, clock, hb, h1, h2, h3, h4⟩ := h
 rcases K.find w hkey es.toList h3 with ⟨q1, q2⟩ | ⟨j, e0, q1, q2, q3⟩
 ·refine Or.inr ⟨fun v hv => ?_, ?_⟩
  ·obtain ⟨x, hx, ex, _⟩ := (h4 key v).2 hv
   exact q2 x hx ex
  ·simp [Instr.lookup, run_underlying ht, MapKept.run_getObj_map hb, K.check w _ hkey, q1, hz, Result.andThen]
 ·exact Or.inl ⟨e0.val, (h4 key _).1 ⟨e0, List.mem_of_getElem? q2, q3, rfl⟩, by simp [Instr.lookup, run_underlying ht, MapKept.run_getObj_map hb, K.check w _ hkey, q1, Result.andThen]⟩
/-- 'm[k] = v'. -/
theorem KM.store (h : KM P kt w b n R) {key val : Value} {kl : Lit} (hkey : keyOf P kt key = some kl) :
  ∃ w', (Instr.mapUpdate t (.map (some b)) key val).run P w = .ok () w' ∧ KM P kt w' b (n + 1) (fun k v => (k = key ∧ v = val) ∨ (k ≠ key ∧ R k v)) ∧ Only (fun k => k = b) w w' := by
 obtain ⟨es, clock, hb, h1, h2, h3, h4⟩ := h
 rcases K.find w hkey es.toList h3 with ⟨q1, q2⟩ | ⟨j, e0, q1, q2, q3⟩
 ·refine ⟨setBlock w b (.map (es.push ⟨key, val, clock⟩) (clock + 1)), ?_, ⟨_, _, heap_setBlock_same hb _, by simp; omega, stamped_push h2 q2, ?_, ?_⟩, only_block _ _ _⟩
  ·simp [Instr.mapUpdate, run_underlying ht, MapKept.run_getObj_map hb, K.check w false hkey, q1, MapKept.run_setObj_map _ hb, Result.andThen, setBlock]
  ·intro x hx
   simp only [Array.toList_push, List.mem_append, List.mem_singleton] at hx
   rcases hx with hx | rfl
   ·exact h3 x hx
   ·exact ⟨kl, hkey⟩
  ·intro k v
   simp only [Array.toList_push, List.mem_append, List.mem_singleton]
   by_cases ek : k = key
   ·rw [show ((k = key ∧ v = val) ∨ (k ≠ key ∧ R k v)) ↔ v = val by simp [ek]]
    subst ek
    constructor
    ·rintro ⟨x, hx | rfl, e1, e2⟩
     ·exact absurd e1 (q2 x hx)
     ·exact e2.symm
    ·rintro rfl
     exact ⟨_, Or.inr rfl, rfl, rfl⟩
   ·rw [show ((k = key ∧ v = val) ∨ (k ≠ key ∧ R k v)) ↔ R k v by simp [ek], ← h4 k v]
    constructor
    ·rintro ⟨x, hx | rfl, e1, e2⟩
     ·exact ⟨x, hx, e1, e2⟩
     ·exact absurd e1.symm ek
    ·rintro ⟨x, hx, e1, e2⟩
     exact ⟨x, Or.inl hx, e1, e2⟩
 ·have hj : es[j]? = some e0 := by simpa using q2
  have hlist : (es.modify j (fun e' => { e' with key := key, val := val })).toList = es.toList.set j { e0 with key := key, val := val } := by rw [Array.toList_modify, modify_eq_set _ _ _ _ q2]
  have hjl : j < es.toList.length := (List.getElem?_eq_some_iff.1 q2).1
  have hmem0 : e0 ∈ es.toList := List.mem_of_getElem? q2
  have hmem : ∀ x, x ∈ es.toList.set j { e0 with key := key, val := val } ↔ x = { e0 with key := key, val := val } ∨ (x ∈ es.toList ∧ x.key ≠ key) := by
   intro x
   constructor
   ·intro hx
    obtain ⟨i, hi, ex⟩ := List.getElem_of_mem hx
    rw [List.getElem_set] at ex
    split at ex
    ·exact Or.inl ex.symm
    ·rename_i hne
     have hi' : i < es.toList.length := by simpa using hi
     refine Or.inr ⟨ex ▸ List.getElem_mem hi', fun ek => hne ?_⟩
     have e2 := stamped_one h2 (x := es.toList[i]) (y := e0) (List.getElem_mem hi') hmem0 (by rw [ex, ek, q3])
     have hp := ((stamped_iff es clock).1 h2).2.2
     obtain ⟨_, e3⟩ := List.getElem?_eq_some_iff.1 q2
     rcases Nat.lt_trichotomy i j with hlt | rfl | hlt
     ·exact absurd (by rw [e2, e3]) (List.pairwise_iff_getElem.1 hp i j hi' hjl hlt)
     ·rfl
     ·exact absurd (by rw [e2, e3]) (List.pairwise_iff_getElem.1 hp j i hjl hi' hlt)
   ·rintro (rfl | ⟨hx, hk⟩)
    ·exact List.mem_iff_getElem.2 ⟨j, by simpa using hjl, by simp⟩
    ·obtain ⟨i, hi, rfl⟩ := List.getElem_of_mem hx
     have hne : j ≠ i := by
      rintro rfl
      obtain ⟨_, e3⟩ := List.getElem?_eq_some_iff.1 q2
      rw [e3] at hk
      exact hk q3
     exact List.mem_iff_getElem.2 ⟨i, by simpa using hi, by rw [List.getElem_set, if_neg hne]⟩
  refine ⟨setBlock w b (.map (es.modify j (fun e' => { e' with key := key, val := val })) clock), ?_, ⟨_, _, heap_setBlock_same hb _, by simp; omega, stamped_modify h2 _ _ (fun _ _ => rfl) (fun e' _ he' => by rw [hj] at he'; cases he'; exact q3.symm), ?_, ?_⟩, only_block _ _ _⟩
  ·simp [Instr.mapUpdate, run_underlying ht, MapKept.run_getObj_map hb, K.check w false hkey, q1, hj, q3, K.stays w hkey, MapKept.run_setObj_map _ hb, Result.andThen, setBlock]
  ·intro x hx
   rw [hlist] at hx
   rcases (hmem x).1 hx with rfl | ⟨hx', _⟩
   ·exact ⟨kl, hkey⟩
   ·exact h3 x hx'
  ·intro k v
   rw [hlist]
   dsimp only
   by_cases ek : k = key
   ·rw [show ((k = key ∧ v = val) ∨ (k ≠ key ∧ R k v)) ↔ v = val by simp [ek]]
    subst ek
    constructor
    ·rintro ⟨x, hx, e1, e2⟩
     rcases (hmem x).1 hx with rfl | ⟨_, hk⟩
     ·exact e2.symm
     ·exact absurd e1 hk
    ·rintro rfl
     exact ⟨_, (hmem _).2 (Or.inl rfl), rfl, rfl⟩
   ·rw [show ((k = key ∧ v = val) ∨ (k ≠ key ∧ R k v)) ↔ R k v by simp [ek], ← h4 k v]
    constructor
    ·rintro ⟨x, hx, e1, e2⟩
     rcases (hmem x).1 hx with rfl | ⟨hx', _⟩
     ·exact absurd e1.symm ek
     ·exact ⟨x, hx', e1, e2⟩
    ·rintro ⟨x, hx, e1, e2⟩
     exact ⟨x, (hmem x).2 (Or.inr ⟨hx, by rw [e1]; exact ek⟩), e1, e2⟩
/-- 'delete(m, k)'. -/
theorem KM.drop (h : KM P kt w b n R) {key : Value} {kl : Lit} (hkey : keyOf P kt key = some kl) (ty : TypeId) :
  ∃ w', (Builtin.delete_ #[t, kt] ty #[.map (some b), key]).run P w = .ok (.tuple #[]) w' ∧ KM P kt w' b n (fun k v => k ≠ key ∧ R k v) ∧ Only (fun k => k = b) w w' := by
 obtain ⟨es, clock, hb, h1, h2, h3, h4⟩ := h
 rcases K.find w hkey es.toList h3 with ⟨q1, q2⟩ | ⟨j, e0, q1, q2, q3⟩
 ·refine ⟨setBlock w b (.map es clock), ?_, ⟨es, clock, heap_setBlock_same hb _, h1, h2, h3, fun k v => ?_⟩, only_block _ _ _⟩
  ·simp [Builtin.delete_, run_underlying ht, MapKept.run_getObj_map hb, K.check w _ hkey, q1, MapKept.run_setObj_map _ hb, Result.andThen, setBlock]
  ·dsimp only
   rw [← h4 k v]
   exact ⟨fun ⟨x, hx, e1, e2⟩ => ⟨by rw [← e1]; exact q2 x hx, x, hx, e1, e2⟩, fun ⟨_, h⟩ => h⟩
 ·have hjs : j < es.size := by simpa using (List.getElem?_eq_some_iff.1 q2).1
  have hsub : (es.eraseIdxIfInBounds j).toList = es.toList.eraseIdx j := by
   unfold Array.eraseIdxIfInBounds
   rw [dif_pos hjs]
   simp
  have hmem0 : e0 ∈ es.toList := List.mem_of_getElem? q2
  have hmem : ∀ x, x ∈ es.toList.eraseIdx j ↔ x ∈ es.toList ∧ x.key ≠ key := by
   intro x
   rw [List.mem_eraseIdx_iff_getElem?]
   constructor
   ·rintro ⟨i, hne, hi⟩
    refine ⟨List.mem_of_getElem? hi, fun ek => hne ?_⟩
    have e2 := stamped_one h2 (List.mem_of_getElem? hi) hmem0 (ek.trans q3.symm)
    subst e2
    obtain ⟨li, e4⟩ := List.getElem?_eq_some_iff.1 hi
    obtain ⟨lj, e5⟩ := List.getElem?_eq_some_iff.1 q2
    have hp := ((stamped_iff es clock).1 h2).2.2
    rcases Nat.lt_trichotomy i j with hlt | rfl | hlt
    ·exact absurd (by rw [e4, e5]) (List.pairwise_iff_getElem.1 hp i j li lj hlt)
    ·rfl
    ·exact absurd (by rw [e4, e5]) (List.pairwise_iff_getElem.1 hp j i lj li hlt)
   ·rintro ⟨hx, hk⟩
    obtain ⟨i, hi⟩ := List.mem_iff_getElem?.1 hx
    refine ⟨i, fun e => hk ?_, hi⟩
    subst e
    rw [hi] at q2
    cases q2
    exact q3
  refine ⟨setBlock w b (.map (es.eraseIdxIfInBounds j) clock), ?_, ⟨_, _, heap_setBlock_same hb _, Nat.le_trans (MapFrom.size_erase es j) h1, stamped_erase h2 j, ?_, ?_⟩, only_block _ _ _⟩
  ·simp [Builtin.delete_, run_underlying ht, MapKept.run_getObj_map hb, K.check w _ hkey, q1, MapKept.run_setObj_map _ hb, Result.andThen, setBlock]
  ·intro x hx
   rw [hsub] at hx
   exact h3 x ((hmem x).1 hx).1
  ·intro k v
   dsimp only
   rw [hsub, ← h4 k v]
   constructor
   ·rintro ⟨x, hx, e1, e2⟩
    obtain ⟨hx', hk⟩ := (hmem x).1 hx
    exact ⟨by rw [← e1]; exact hk, x, hx', e1, e2⟩
   ·rintro ⟨hk, x, hx, e1, e2⟩
    exact ⟨x, (hmem x).2 ⟨hx, by rw [e1]; exact hk⟩, e1, e2⟩
omit K in
/-- 'clear(m)'. -/
theorem KM.clear (h : KM P kt w b n R) (ty : TypeId) :
  ∃ w', (Builtin.clear_ #[t] ty #[.map (some b)]).run P w = .ok (.tuple #[]) w' ∧ KM P kt w' b 0 (fun _ _ => False) ∧ Only (fun k => k = b) w w' := by
 obtain ⟨es, clock, hb, h1, h2, h3, h4⟩ := h
 refine ⟨setBlock w b (.map #[] clock), ?_, ⟨#[], clock, heap_setBlock_same hb _, Nat.le_refl _, stamped_empty clock, fun x hx => (by simp at hx), fun k v => ⟨fun ⟨x, hx, _⟩ => (by simp at hx), fun h => h.elim⟩⟩, only_block _ _ _⟩
 simp [Builtin.clear_, run_underlying ht, MapKept.run_getObj_map hb, MapKept.run_setObj_map _ hb, Result.andThen, setBlock]
end
end Go.Proofs.Ytjeogeablbkhgaa.Mem
