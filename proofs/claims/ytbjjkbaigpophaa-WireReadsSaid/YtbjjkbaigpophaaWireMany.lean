/-
  Many things put into several writers of layer 2: what is put, how long it is, and that writers stand apart. Conditions: none.
-/
import Derived.Test.YtbjjkbaigpophaaWireReader
namespace Go.Proofs.Ytbjjkbaigpophaa.Wire
open Go.RowKit Go.Proofs.Ytbjjkbaigpophaa.Mem

/-- What many things leave. -/
def puts (st : Option (List UInt8)) (ts : List Th) : Option (List UInt8) := ts.foldl putSt st
theorem puts_nil (st : Option (List UInt8)) : puts st [] = st := rfl
theorem puts_take (st : Option (List UInt8)) (ts : List Th) (k : Nat) (h : k < ts.length) : puts st (ts.take (k + 1)) = putSt (puts st (ts.take k)) ts[k] := by
  rw [List.take_succ_eq_append_getElem h]
  unfold puts
  rw [List.foldl_append]
  rfl
theorem putSt_none (t : Th) : putSt none t = none := by
  unfold putSt
  split
  · rfl
  · split <;> rfl
theorem puts_none (ts : List Th) : puts none ts = none := by
  induction ts with
  | nil => rfl
  | cons t ts ih => show puts (putSt none t) ts = none; rw [putSt_none]; exact ih
theorem putSt_onto (l m : List UInt8) (t : Th) : putSt (some (l ++ m)) t = (putSt (some m) t).map (l ++ ·) := by
  unfold putSt
  split
  · rfl
  · split
    · simp
    · rfl
theorem puts_onto (l : List UInt8) : ∀ (ts : List Th) (m : List UInt8), puts (some (l ++ m)) ts = (puts (some m) ts).map (l ++ ·)
  | [], m => rfl
  | t :: ts, m => by
    show puts (putSt (some (l ++ m)) t) ts = (puts (putSt (some m) t) ts).map _
    rw [putSt_onto]
    cases hp : putSt (some m) t with
    | none => rw [Option.map_none, puts_none]; rfl
    | some x => exact puts_onto l ts x
theorem putB_length (t : Th) (l : List UInt8) (h : putB t = some l) : l.length ≤ 65545 := by
  unfold putB at h
  split at h
  · injection h with h; subst h; simp
  split at h
  · split at h
    · injection h with h; subst h; rw [big_length]; omega
    · injection h with h; subst h; rw [big_length]; omega
  split at h
  · split at h
    · cases h
    · injection h with h; subst h; rw [big_length]; omega
  split at h
  · injection h with h; subst h; rw [big_length]; omega
  split at h
  · cases h
  · injection h with h; subst h; rw [List.length_append, big_length, toList_size]; omega
theorem putSt_length (st : Option (List UInt8)) (t : Th) : ((putSt st t).getD []).length ≤ (st.getD []).length + 65545 := by
  unfold putSt
  split
  · omega
  · split
    · rename_i l hl
      have := putB_length t l hl
      cases st with
      | none => simp
      | some m => simp only [Option.map_some, Option.getD_some, List.length_append]; omega
    · simp
theorem puts_length : ∀ (ts : List Th) (st : Option (List UInt8)), ((puts st ts).getD []).length ≤ (st.getD []).length + 65545 * ts.length
  | [], st => by simp [puts]
  | t :: ts, st => by
    have h1 := puts_length ts (putSt st t)
    have h2 := putSt_length st t
    show ((puts (putSt st t) ts).getD []).length ≤ _
    rw [List.length_cons]
    omega
theorem puts_small (ts : List Th) (st : Option (List UInt8)) (k : Nat) (h : (st.getD []).length ≤ 100000000) (hn : ts.length ≤ 100) : ((puts st (ts.take k)).getD []).length ≤ 900000000 := by
  have h1 := puts_length (ts.take k) st
  have h2 : (ts.take k).length ≤ ts.length := by rw [List.length_take]; omega
  omega

/-- Two writers that share no block. -/
structure Far (g : Nat) (r : Option Nat) (g' : Nat) (r' : Option Nat) : Prop where
  own : g ≠ g'
  left : r ≠ some g'
  right : r' ≠ some g
  rows : ∀ k, r = some k → r' ≠ some k
theorem Far.symm {g g' : Nat} {r r' : Option Nat} (h : Far g r g' r') : Far g' r' g r := ⟨fun e => h.own e.symm, h.right, h.left, fun k hk e => h.rows k e hk⟩
theorem Far.keep {w w' : World} {base g g' : Nat} {r r1 r' : Option Nat} {st : Option (List UInt8)} (h : Far g r g' r') (ht : Turn w w' g r r1) (hw : Wr w base g' r' st) : Wr w' base g' r' st :=
  hw.only ht.1 (by
    rintro (e | e)
    · exact h.own e.symm
    · exact h.left e.symm) (by
    rintro k hk (e | e)
    · subst e; exact h.right hk
    · exact h.rows k e.symm hk)
theorem Far.step {w w' : World} {base g g' : Nat} {r r1 r' : Option Nat} {st : Option (List UInt8)} (h : Far g r g' r') (ht : Turn w w' g r r1) (hw : Wr w base g' r' st) : Far g r1 g' r' := by
  refine ⟨h.own, fun e => ?_, h.right, fun k hk e => ?_⟩
  · rcases ht.2 _ e with h1 | h1
    · exact h.left h1.symm
    · have := hw.lt.1; omega
  · rcases ht.2 _ hk with h1 | h1
    · exact h.rows k h1.symm e
    · have := hw.lt.2 k e; omega
/-- A block of the call's own that no writer has is as it was. -/
theorem Turn.cells {w w' : World} {g : Nat} {r r1 : Option Nat} {b : Nat} {t : TypeId} {vs : List Value} (ht : Turn w w' g r r1) (hb : g ≠ b) (hr : r ≠ some b) (h : Cells w b t vs) : Cells w' b t vs :=
  cells_only h ht.1 (by
    rintro (e | e)
    · exact hb e.symm
    · exact hr e.symm)

/-- Three writers that stand apart. -/
structure Three (w : World) (base g1 g2 g3 : Nat) (r1 r2 r3 : Option Nat) (s1 s2 s3 : Option (List UInt8)) : Prop where
  one : Wr w base g1 r1 s1
  two : Wr w base g2 r2 s2
  three : Wr w base g3 r3 s3
  ab : Far g1 r1 g2 r2
  ac : Far g1 r1 g3 r3
  bc : Far g2 r2 g3 r3
theorem Three.first {w w' : World} {base g1 g2 g3 : Nat} {r1 r2 r3 r : Option Nat} {s1 s2 s3 s : Option (List UInt8)} (h : Three w base g1 g2 g3 r1 r2 r3 s1 s2 s3) (hw : Wr w' base g1 r s) (ht : Turn w w' g1 r1 r) : Three w' base g1 g2 g3 r r2 r3 s s2 s3 :=
  ⟨hw, h.ab.keep ht h.two, h.ac.keep ht h.three, h.ab.step ht h.two, h.ac.step ht h.three, h.bc⟩
theorem Three.second {w w' : World} {base g1 g2 g3 : Nat} {r1 r2 r3 r : Option Nat} {s1 s2 s3 s : Option (List UInt8)} (h : Three w base g1 g2 g3 r1 r2 r3 s1 s2 s3) (hw : Wr w' base g2 r s) (ht : Turn w w' g2 r2 r) : Three w' base g1 g2 g3 r1 r r3 s1 s s3 :=
  ⟨h.ab.symm.keep ht h.one, hw, h.bc.keep ht h.three, (h.ab.symm.step ht h.one).symm, h.ac, h.bc.step ht h.three⟩
theorem Three.third {w w' : World} {base g1 g2 g3 : Nat} {r1 r2 r3 r : Option Nat} {s1 s2 s3 s : Option (List UInt8)} (h : Three w base g1 g2 g3 r1 r2 r3 s1 s2 s3) (hw : Wr w' base g3 r s) (ht : Turn w w' g3 r3 r) : Three w' base g1 g2 g3 r1 r2 r s1 s2 s :=
  ⟨h.ac.symm.keep ht h.one, h.bc.symm.keep ht h.two, hw, h.ab, (h.ac.symm.step ht h.one).symm, (h.bc.symm.step ht h.two).symm⟩
theorem Three.later {w w' : World} {base g1 g2 g3 : Nat} {r1 r2 r3 : Option Nat} {s1 s2 s3 : Option (List UInt8)} (h : Three w base g1 g2 g3 r1 r2 r3 s1 s2 s3) (hb : Below w.heap.size w w') : Three w' base g1 g2 g3 r1 r2 r3 s1 s2 s3 :=
  ⟨h.one.later hb, h.two.later hb, h.three.later hb, h.ab, h.ac, h.bc⟩

/-- A new writer's block. -/
def fresh : Obj := .cells #[.slice none 0 0, .bool false] 27
theorem three_new (w : World) (base : Nat) (hb : base ≤ w.heap.size) : Three (((w.alloc fresh).alloc fresh).alloc fresh) base w.heap.size (w.heap.size + 1) (w.heap.size + 2) none none none (some []) (some []) (some []) := by
  have h1 := wr_new w base hb
  have h2 := wr_new (w.alloc fresh) base (by simp; omega)
  have h3 := wr_new ((w.alloc fresh).alloc fresh) base (by simp; omega)
  simp only [World.size_alloc] at h2 h3
  exact ⟨(h1.later (below_alloc _ _)).later (below_alloc _ _), h2.later (below_alloc _ _), h3,
    ⟨by omega, by simp, by simp, fun _ h => by cases h⟩, ⟨by omega, by simp, by simp, fun _ h => by cases h⟩, ⟨by omega, by simp, by simp, fun _ h => by cases h⟩⟩
theorem three_below (w : World) : Below w.heap.size w (((w.alloc fresh).alloc fresh).alloc fresh) := ((below_alloc w _).alloc (by simp) _).alloc (by simp; omega) _
theorem things_cells {w w' : World} {A : Option Addr} {ts : List Th} {k : Nat} (h : Things w A ts) (hk : k < ts.length) (hb : Below w.heap.size w w') : ∃ b off, A = some ⟨b, off, none⟩ ∧
    w'.cell? ⟨b, off + k * 3, none⟩ = some (.int .i64 ts[k].k) ∧ w'.cell? ⟨b, off + k * 3 + 1, none⟩ = some (.int .i64 ts[k].n) ∧ w'.cell? ⟨b, off + k * 3 + 2, none⟩ = some (.string ts[k].s) := by
  obtain ⟨_, b, off, e, h0, h1, h2⟩ := h k hk
  exact ⟨b, off, e, (hb.cell (block_of_cell h0)).trans h0, (hb.cell (block_of_cell h1)).trans h1, (hb.cell (block_of_cell h2)).trans h2⟩
theorem size_le_sum (ts : List Th) (k : Nat) (h : k < ts.length) : ts[k].s.size ≤ (ts.map (·.s.size)).sum := by
  have h1 := sum_take (ts.map (·.s.size)) k (by simpa using h)
  have h2 := sum_take_le (ts.map (·.s.size)) (k + 1)
  rw [List.getElem_map] at h1
  omega
end Go.Proofs.Ytbjjkbaigpophaa.Wire
