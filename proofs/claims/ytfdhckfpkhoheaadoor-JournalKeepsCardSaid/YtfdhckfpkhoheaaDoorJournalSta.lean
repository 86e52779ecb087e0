/-
  What the law of layer 5 holds while it goes: a journal on its disk, two rows of texts of its own, the operation's box, all apart; and what each step makes of them. Conditions: none of its own.
-/
import Derived.Test.YtfdhckfpkhoheaaDoorJournalCode
import Derived.Maps.AppendAt
import Derived.Laws.OwnMore
namespace Go.Proofs.YtfdhckfpkhoheaaDoor.Journal
open Go.RowKit Go.Proofs.YtfdhckfpkhoheaaDoor.Mem Go.Proofs.YtfdhckfpkhoheaaDoor.Crc Go.Proofs.YtfdhckfpkhoheaaDoor.Frame Go.Proofs.YtfdhckfpkhoheaaDoor.Disk

theorem texts_bytesOf (ss : List ByteArray) : texts (bytesOf ss) = ss := by
  unfold texts bytesOf
  rw [List.map_map]
  exact (List.map_congr_left fun s _ => bytes_eta s).trans (List.map_id ss)
theorem bytesOf_length (ss : List ByteArray) : (bytesOf ss).length = ss.length := List.length_map _
theorem frs_bytesOf (ss : List ByteArray) : (frs (bytesOf ss)).length = 6 * ss.length + (cat ss).length := by
  induction ss with
  | nil => rfl
  | cons s ss ih =>
    show (frs (s.data.toList :: bytesOf ss)).length = _
    rw [frs_cons, List.length_append, frm_length, ih]
    have e : cat (s :: ss) = s.data.toList ++ cat ss := rfl
    rw [e, List.length_append, List.length_cons]
    omega
theorem frs_count (ps : List (List UInt8)) : ps.length ≤ (frs ps).length := by
  induction ps with
  | nil => exact Nat.le_refl _
  | cons p ps ih =>
    rw [frs_cons, List.length_append, frm_length, List.length_cons]
    omega

/-- What append makes of a row of the call's own and of a slice of texts, and where the row lies then. -/
theorem append_texts (w : World) (ty : TypeId) (base : Nat) (v : Value) (us bs : List ByteArray) (A : Option Addr) (c : Nat) (hown : Txt w base v us) (hr : Strs w A bs)
    (hn : us.length + bs.length ≤ 1000000000) (hbase : base ≤ w.heap.size) (hA : A = none → c = 0) :
    ∃ v' w', (Builtin.append_ #[30, 30] ty #[v, .slice A bs.length c]).run Tryd.prog w = .ok v' w' ∧ Txt w' base v' (us ++ bs) ∧ w.grownBy w' v.ownBlock ∧ (v'.ownBlock = v.ownBlock ∨ v'.ownBlock = some w.heap.size) := by
  obtain ⟨i0, hi, hz0, hz1, hz2⟩ := info_parts infoString
  have hm : us.length + bs.length ≤ maxLen := by unfold maxLen; omega
  match A, hr, hA with
  | none, hr, hA =>
    have hb : bs = [] := by
      match bs, hr with
      | [], _ => rfl
      | b :: r, hr => obtain ⟨ad, h, _⟩ := hr 0 (by simp); cases h
    subst hb
    obtain rfl := hA rfl
    refine ⟨v, w, ?_, by simpa using hown, World.grownBy.refl w _, Or.inl rfl⟩
    exact run_append_owned_none (P := Tryd.prog) (w := w) base 30 ty 9 i0 1 Tryd.underlying30 hi v us.length (us.map Value.string) hown
  | some ad, hr, _ =>
    obtain ⟨v', w', h1, h2, h3, _, h5⟩ := run_append_own_at (P := Tryd.prog) w base 30 ty 9 i0 _ 1 16 Tryd.underlying30 hi hz0 hz1 hz2 rfl (by omega) v us.length (us.map Value.string) hown
      ad bs.length c (bs.map Value.string) (by simp) (fun j u hu => by
        have hj : j < bs.length := by
          have := (List.getElem?_eq_some_iff.1 hu).1
          simpa using this
        obtain ⟨ad', e, hc, _⟩ := hr j hj
        injection e with e
        subst e
        rw [hc, ← hu]
        simp [hj]) (fun u hu => by
        obtain ⟨s, _, rfl⟩ := List.mem_map.1 hu
        rfl) hm (by omega) hbase
    refine ⟨v', w', h1, ?_, h3, h5⟩
    unfold Txt
    rw [List.length_append, List.map_append]
    exact h2
theorem wpList_texts {w : World} {ops : Array Oper} {rest : List Oper} {o : Oper} {a : Act} {Q : Exit → Act → World → Prop} (hgd : o.guard = none) (s x : Operand)
    (ho : o.op = .call { callee := .builtin .append, args := #[s, x], argTypes := #[30, 30] })
    (base : Nat) (v : Value) (us bs : List ByteArray) (A : Option Addr) (c : Nat) (hs : a.eval s = v) (hown : Txt w base v us) (hx : a.eval x = .slice A bs.length c) (hr : Strs w A bs)
    (hn : us.length + bs.length ≤ 1000000000) (hbase : base ≤ w.heap.size) (hA : A = none → c = 0)
    (h : ∀ v' w', Txt w' base v' (us ++ bs) → w.grownBy w' v.ownBlock → (v'.ownBlock = v.ownBlock ∨ v'.ownBlock = some w.heap.size) → wpList Tryd.prog ops Q rest (a.put o.dst v') w') : wpList Tryd.prog ops Q (o :: rest) a w :=
  wpList_plain hgd fun K hK => by
    obtain ⟨v', w', hrun, h2, h3, h4⟩ := append_texts w o.type base v us bs A c hown hr hn hbase hA
    unfold Oper.wp execOp
    simp only [ho, resolve, invoke, builtin, Sem.run_bind, Sem.run_pure, Result.andThen_ok, List.map_toArray, List.map_cons, List.map_nil, hs, hx, hrun]
    exact hK _ _ (h v' w' h2 h3 h4)

/-- An operation whose guard holds. -/
theorem wpList_wanted {P : Program} {w : World} {ops : Array Oper} {rest : List Oper} {o : Oper} {a : Act} {Q : Exit → Act → World → Prop} (hw : Region.wanted o (yielded ops a.tmps) = true)
    (h : ∀ K : Act → World → Prop, (∀ a w, wpList P ops Q rest a w → K a w) → o.wp P a w K Q) : wpList P ops Q (o :: rest) a w :=
  wpList_step fun K hK => by simp only [hw, if_true]; exact h K hK
theorem wpList_texts_if {w : World} {ops : Array Oper} {rest : List Oper} {o : Oper} {a : Act} {Q : Exit → Act → World → Prop} (hgd : Region.wanted o (yielded ops a.tmps) = true) (s x : Operand)
    (ho : o.op = .call { callee := .builtin .append, args := #[s, x], argTypes := #[30, 30] })
    (base : Nat) (v : Value) (us bs : List ByteArray) (A : Option Addr) (c : Nat) (hs : a.eval s = v) (hown : Txt w base v us) (hx : a.eval x = .slice A bs.length c) (hr : Strs w A bs)
    (hn : us.length + bs.length ≤ 1000000000) (hbase : base ≤ w.heap.size) (hA : A = none → c = 0)
    (h : ∀ v' w', Txt w' base v' (us ++ bs) → w.grownBy w' v.ownBlock → (v'.ownBlock = v.ownBlock ∨ v'.ownBlock = some w.heap.size) → wpList Tryd.prog ops Q rest (a.put o.dst v') w') : wpList Tryd.prog ops Q (o :: rest) a w :=
  wpList_wanted hgd fun K hK => by
    obtain ⟨v', w', hrun, h2, h3, h4⟩ := append_texts w o.type base v us bs A c hown hr hn hbase hA
    unfold Oper.wp execOp
    simp only [ho, resolve, invoke, builtin, Sem.run_bind, Sem.run_pure, Result.andThen_ok, List.map_toArray, List.map_cons, List.map_nil, hs, hx, hrun]
    exact hK _ _ (h v' w' h2 h3 h4)

theorem strs_small {w : World} {A : Option Addr} {ss : List ByteArray} (h : Strs w A ss) : ∀ s ∈ ss, s.size ≤ 140737488355328 := fun s hs => by
  obtain ⟨i, hi, rfl⟩ := List.getElem_of_mem hs
  obtain ⟨_, _, _, hz⟩ := h i hi
  exact hz
theorem both_small {a b : List ByteArray} (h : ∀ s ∈ a, s.size ≤ 140737488355328) (k : ∀ s ∈ b, s.size ≤ 140737488355328) : ∀ s ∈ a ++ b, s.size ≤ 140737488355328 := fun s hs => (List.mem_append.1 hs).elim (h s) (k s)
theorem fits_small {ps : List (List UInt8)} (h : fits ps) : ∀ s ∈ texts ps, s.size ≤ 140737488355328 := texts_small ps h
theorem opened_cap {w : World} {base : Nat} {v : Value} {ss : List ByteArray} (h : Txt w base v ss) (hz : ∀ s ∈ ss, s.size ≤ 140737488355328) : ∃ A cap, v = .slice A ss.length cap ∧ Strs w A ss ∧ Cap A ss.length cap := by
  obtain ⟨A, cap, rfl, hs⟩ := h.opened hz
  refine ⟨A, cap, rfl, hs, ?_⟩
  rcases h.2 with ⟨he, hl⟩ | ⟨g, cap', cur, he, _, _, h1, _⟩
  · injection he with h1 _ h2
    exact ⟨fun _ => h2, by omega⟩
  · injection he with h2 _ h3
    exact ⟨fun h => (by rw [h] at h2; cases h2), by omega⟩
theorem opened_at {w : World} {base : Nat} {A : Option Addr} {n c : Nat} {ss : List ByteArray} (h : Txt w base (.slice A n c) ss) (hz : ∀ s ∈ ss, s.size ≤ 140737488355328) : Strs w A ss ∧ Cap A n c := by
  obtain ⟨A', c', e, hs, hc⟩ := opened_cap h hz
  injection e with e1 e2 e3
  subst e1; subst e2; subst e3
  exact ⟨hs, hc⟩
variable {C : Disk.Does} {J : Does C} {w0 w w' : World} {g gj b : Nat} {d d' : Ds} {rs rs' : List (List UInt8)} {o o' : Bool} {v u : Value} {xs ys : List ByteArray} {vs : List Value}
theorem Txt.low {base : Nat} (h : Txt w base v xs) : ∀ k, rowFoot v k → base ≤ k ∧ k < w.heap.size := fun k hk => h.lt k hk
theorem Both.only {base : Nat} {S T : Foot} {r : Option Nat} (h : Both C J.Jn base w S g r gj d rs o) (ho : Only T w w') (ha : Apart (S.or (pair g r)) T) : Both C J.Jn base w' S g r gj d rs o :=
  ⟨J.only h.journal ho ha.left, C.only h.disk ho (ha g (Or.inr (Or.inl rfl))) fun k hk => ha k (Or.inr (Or.inr hk.symm)), h.apart⟩
theorem Both.low {base : Nat} {S : Foot} {r : Option Nat} (h : Both C J.Jn base w S g r gj d rs o) : ∀ k, (S.or (pair g r)) k → base ≤ k ∧ k < w.heap.size := by
  rintro k (hk | rfl | hk)
  · exact J.foot h.journal k hk
  · exact ⟨(C.own h.disk).1, (C.lt h.disk).1⟩
  · exact ⟨(C.own h.disk).2 k hk.symm, (C.lt h.disk).2 k hk.symm⟩

theorem Both.disked {base : Nat} {S : Foot} {r r' : Option Nat} (h : Both C J.Jn base w S g r gj d rs o) (hd : C.Dk w' base g r' d') (ht : Turn w w' g r r') : Both C J.Jn base w' S g r' gj d' rs o :=
  ⟨J.only h.journal ht.1 h.apart, hd, h.apart.next (Step.of_turn ht) fun i hi => (J.foot h.journal i hi).2⟩
theorem step_disk {S : Foot} {r r' : Option Nat} (ht : Turn w w' g r r') : Step (S.or (pair g r)) (S.or (pair g r')) w w' :=
  ⟨ht.1.mono fun _ _ hk => Or.inr hk, fun k hk => hk.elim (fun h => Or.inl (Or.inl h)) fun h => ((Step.of_turn ht).grow k h).imp_left Or.inr⟩
/-- What the law holds. -/
structure Sta (C : Disk.Does) (J : Does C) (w0 w : World) (g gj : Nat) (d : Ds) (rs : List (List UInt8)) (o : Bool) (v : Value) (xs : List ByteArray) (u : Value) (ys : List ByteArray) (b : Nat) (vs : List Value) : Prop where
  below : Below w0.heap.size w0 w
  here : ∃ S r, Both C J.Jn w0.heap.size w S g r gj d rs o ∧ Apart (rowFoot v) (S.or (pair g r)) ∧ Apart (rowFoot u) (S.or (pair g r)) ∧ (vs ≠ [] → ¬ (S.or (pair g r)) b)
  row1 : Txt w w0.heap.size v xs
  row2 : Txt w w0.heap.size u ys
  apart : Apart (rowFoot v) (rowFoot u)
  box : ∀ (j : Nat) (x : Value), vs[j]? = some x → w.cell? ⟨b, j, none⟩ = some x
  far : vs ≠ [] → w0.heap.size ≤ b ∧ b < w.heap.size ∧ ¬ rowFoot v b ∧ ¬ rowFoot u b
theorem Sta.base (h : Sta C J w0 w g gj d rs o v xs u ys b vs) : w0.heap.size ≤ w.heap.size := h.below.size
theorem cell_only {T : Foot} {p : Addr} {x : Value} (h : w.cell? p = some x) (ho : Only T w w') (hn : ¬ T p.block) : w'.cell? p = some x :=
  (World.cell?_of_block (ho.block p.block (block_of_cell h) hn)).trans h
/-- A call on the journal, or on its disk. -/
theorem Sta.call (h : Sta C J w0 w g gj d rs o v xs u ys b vs) {S S' : Foot} {r r' : Option Nat} (hb : Both C J.Jn w0.heap.size w S g r gj d rs o) (h1 : Apart (rowFoot v) (S.or (pair g r))) (h2 : Apart (rowFoot u) (S.or (pair g r))) (h3 : vs ≠ [] → ¬ (S.or (pair g r)) b)
    (hb' : Both C J.Jn w0.heap.size w' S' g r' gj d' rs' o') (hs : Step (S.or (pair g r)) (S'.or (pair g r')) w w') : Sta C J w0 w' g gj d' rs' o' v xs u ys b vs where
  below := h.below.trans (hs.low (fun k hk => (hb.low k hk).1) h.base)
  here := ⟨S', r', hb', h1.next hs fun i hi => (Txt.low h.row1 i hi).2, h2.next hs fun i hi => (Txt.low h.row2 i hi).2, fun hv hk => by
    rcases hs.grow b hk with hk | hk
    · exact h3 hv hk
    · have := (h.far hv).2.1; omega⟩
  row1 := row_only h.row1 hs.only fun k hk => h1 k hk
  row2 := row_only h.row2 hs.only fun k hk => h2 k hk
  apart := h.apart
  box := fun j x hx => cell_only (h.box j x hx) hs.only (h3 (by intro e; subst e; simp at hx))
  far := fun hv => ⟨(h.far hv).1, Nat.lt_of_lt_of_le (h.far hv).2.1 hs.only.size, (h.far hv).2.2⟩
theorem Sta.swap (h : Sta C J w0 w g gj d rs o v xs u ys b vs) : Sta C J w0 w g gj d rs o u ys v xs b vs := by
  obtain ⟨S, r, hb, h1, h2, h3⟩ := h.here
  exact ⟨h.below, ⟨S, r, hb, h2, h1, h3⟩, h.row2, h.row1, h.apart.symm, h.box, fun hv => ⟨(h.far hv).1, (h.far hv).2.1, (h.far hv).2.2.2, (h.far hv).2.2.1⟩⟩
theorem Sta.later (h : Sta C J w0 w g gj d rs o v xs u ys b vs) (hb : Below w.heap.size w w') : Sta C J w0 w' g gj d rs o v xs u ys b vs := by
  obtain ⟨S, r, hj, h1, h2, h3⟩ := h.here
  have ho : Only (fun _ => False) w w' := Only.of_below hb
  exact ⟨h.below.trans (hb.mono h.base), ⟨S, r, hj.only ho fun _ _ h => h, h1, h2, h3⟩, h.row1.later hb, h.row2.later hb, h.apart, fun j x hx => cell_only (h.box j x hx) ho fun h => h, fun hv => ⟨(h.far hv).1, Nat.lt_of_lt_of_le (h.far hv).2.1 hb.size, (h.far hv).2.2⟩⟩
/-- The second row has grown. -/
theorem Sta.grow (h : Sta C J w0 w g gj d rs o v xs u ys b vs) {u' : Value} {ys' : List ByteArray} (ht : Txt w' w0.heap.size u' ys') (hg : w.grownBy w' u.ownBlock) (hat : u'.ownBlock = u.ownBlock ∨ u'.ownBlock = some w.heap.size) : Sta C J w0 w' g gj d rs o v xs u' ys' b vs := by
  obtain ⟨S, r, hj, h1, h2, h3⟩ := h.here
  have ho := Only.of_grown hg
  have ha : ∀ T : Foot, Apart (rowFoot u) T → Apart T (fun k => some k = u.ownBlock) := fun T hT k hk e => hT k e.symm hk
  have hn : ∀ T : Foot, (∀ k, T k → k < w.heap.size) → Apart (rowFoot u) T → Apart (rowFoot u') T := fun T hl hT k hk hTk => by
    rcases hat with e | e
    · exact hT k (e.symm.trans hk) hTk
    · have e2 := e.symm.trans hk
      injection e2 with e2
      have := hl k hTk
      omega
  refine ⟨h.below.trans (ho.below h.base fun k hk => (Txt.low h.row2 k hk.symm).1), ⟨S, r, hj.only ho (ha _ h2), h1, hn _ (fun k hk => (hj.low k hk).2) h2, h3⟩, row_only h.row1 ho (ha _ h.apart.symm), ht, (hn _ (fun k hk => (Txt.low h.row1 k hk).2) h.apart.symm).symm, fun j x hx => ?_, fun hv => ?_⟩
  · have hv : vs ≠ [] := by intro e; subst e; simp at hx
    exact cell_only (h.box j x hx) ho fun e => (h.far hv).2.2.2 e.symm
  · refine ⟨(h.far hv).1, Nat.lt_of_lt_of_le (h.far hv).2.1 hg.size, (h.far hv).2.2.1, fun hk => ?_⟩
    rcases hat with e | e
    · exact (h.far hv).2.2.2 (e.symm.trans hk)
    · have e2 := e.symm.trans hk
      injection e2 with e2
      have := (h.far hv).2.1
      omega
/-- The second row is nil. -/
theorem Sta.clear (h : Sta C J w0 w g gj d rs o v xs u ys b vs) : Sta C J w0 w g gj d rs o v xs (.slice none 0 0) [] b vs := by
  obtain ⟨S, r, hj, h1, h2, h3⟩ := h.here
  exact ⟨h.below, ⟨S, r, hj, h1, fun k hk => (by cases hk), h3⟩, h.row1, txt_nil _ _, fun k _ hk => (by cases hk), h.box, fun hv => ⟨(h.far hv).1, (h.far hv).2.1, (h.far hv).2.2.1, fun hk => (by cases hk)⟩⟩
/-- The second row is a new one. -/
theorem Sta.fresh (h : Sta C J w0 w g gj d rs o v xs u ys b vs) : Sta C J w0 (w.alloc (.cells #[] 9)) g gj d rs o v xs (.slice (some ⟨w.heap.size, 0, none⟩) 0 0) [] b vs := by
  have hl := h.later (below_alloc w (.cells #[] 9))
  obtain ⟨S, r, hj, h1, h2, h3⟩ := h.here
  obtain ⟨S', r', hj', h1', h2', h3'⟩ := hl.here
  have hne : ∀ k, rowFoot (.slice (some ⟨w.heap.size, 0, none⟩) 0 0) k → k = w.heap.size := fun k hk => by
    injection hk with hk
    exact hk.symm
  refine ⟨hl.below, ⟨S, r, hj.only (Only.of_below (S := fun _ => False) (below_alloc w _)) fun _ _ h => h, h1, fun k hk hs => ?_, h3⟩, hl.row1, txt_new w _ h.base, fun k hk hn => ?_, hl.box, fun hv => ⟨(hl.far hv).1, (hl.far hv).2.1, (hl.far hv).2.2.1, fun hk => ?_⟩⟩
  · have := hne k hk; have := (hj.low k hs).2; omega
  · have := hne k hn; have := (Txt.low h.row1 k hk).2; omega
  · have := hne b hk; have := (h.far hv).2.1; omega
/-- The box is forgotten; another one is laid. -/
theorem Sta.bare (h : Sta C J w0 w g gj d rs o v xs u ys b vs) : Sta C J w0 w g gj d rs o v xs u ys 0 [] := by
  obtain ⟨S, r, hj, h1, h2, h3⟩ := h.here
  exact ⟨h.below, ⟨S, r, hj, h1, h2, fun hv => absurd rfl hv⟩, h.row1, h.row2, h.apart, fun j x hx => (by simp at hx), fun hv => absurd rfl hv⟩
theorem Sta.boxed (h : Sta C J w0 w g gj d rs o v xs u ys 0 []) (t : TypeId) (cs : Array Value) : Sta C J w0 (w.alloc (.cells cs t)) g gj d rs o v xs u ys w.heap.size cs.toList := by
  have hl := h.later (below_alloc w (.cells cs t))
  obtain ⟨S, r, hj, h1, h2, _⟩ := h.here
  refine ⟨hl.below, ⟨S, r, hj.only (Only.of_below (S := fun _ => False) (below_alloc w _)) fun _ _ h => h, h1, h2, fun _ hs => ?_⟩, hl.row1, hl.row2, h.apart, fun j x hx => ?_, fun _ => ⟨h.base, by rw [World.size_alloc]; omega, fun hk => ?_, fun hk => ?_⟩⟩
  · have := (hj.low _ hs).2; omega
  · rw [cell_of_row _ _ _ _ _ _ (heap_alloc_new w _)]
    simpa using hx
  · have := (Txt.low h.row1 _ hk).2; omega
  · have := (Txt.low h.row2 _ hk).2; omega

/-- What the law knows while it goes: what is sure, what may be there, and what a Renew that broke off would have left. -/
structure Kn (C : Disk.Does) (J : Does C) (w0 w : World) (g gj : Nat) (d : Ds) (sure maybe : List (List UInt8)) (o : Bool) (v u x y : Value) (b : Nat) (vs : List Value) : Prop where
  sta : ∃ rs, Sta C J w0 w g gj d rs o v (texts sure) u (texts maybe) b vs ∧ (o = false → rs = sure ++ maybe)
  on : On 262144 d sure maybe o
  anew : ∃ (z : Bool) (A : Option Addr) (ts : List ByteArray) (c : Nat), y = .bool z ∧ x = .slice A ts.length c ∧ Strs w0 A ts ∧ ts.length ≤ 20
theorem Kn.later {sure maybe : List (List UInt8)} {x y : Value} (h : Kn C J w0 w g gj d sure maybe o v u x y b vs) (hb : Below w.heap.size w w') : Kn C J w0 w' g gj d sure maybe o v u x y b vs := by
  obtain ⟨rs, hs, he⟩ := h.sta
  exact ⟨⟨rs, hs.later hb, he⟩, h.on, h.anew⟩
theorem Kn.bare {sure maybe : List (List UInt8)} {x y : Value} (h : Kn C J w0 w g gj d sure maybe o v u x y b vs) : Kn C J w0 w g gj d sure maybe o v u x y 0 [] := by
  obtain ⟨rs, hs, he⟩ := h.sta
  exact ⟨⟨rs, hs.bare, he⟩, h.on, h.anew⟩
theorem Kn.boxed {sure maybe : List (List UInt8)} {x y : Value} (h : Kn C J w0 w g gj d sure maybe o v u x y 0 []) (t : TypeId) (cs : Array Value) : Kn C J w0 (w.alloc (.cells cs t)) g gj d sure maybe o v u x y w.heap.size cs.toList := by
  obtain ⟨rs, hs, he⟩ := h.sta
  exact ⟨⟨rs, hs.boxed t cs, he⟩, h.on, h.anew⟩
theorem then_no {e : Int} (h : e ≠ 0) (a b : List (List UInt8)) : then_ e a b = a := if_neg h
theorem then_yes (a b : List (List UInt8)) : then_ 0 a b = b := if_pos rfl
end Go.Proofs.YtfdhckfpkhoheaaDoor.Journal
