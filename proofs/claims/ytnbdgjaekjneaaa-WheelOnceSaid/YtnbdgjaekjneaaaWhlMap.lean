/-
  Layer 12's law of timers told once: when each is due, in a map of the law's own. Conditions: none.
-/
import Derived.Test.YtnbdgjaekjneaaaWhlOrd
import Derived.Test.YtnbdgjaekjneaaaWhlLaw
import Derived.Test.YtnbdgjaekjneaaaMapKey
namespace Go.Proofs.Ytnbdgjaekjneaaa.Whl
set_option maxRecDepth 100000
open Go.RowKit Go.Deep Go.Proofs.Ytnbdgjaekjneaaa.Mem

theorem key_keyed : Go.Maps.Keyed Try.prog 34 := Go.Maps.Keyed.of_law (deep_law_laid Base.laidOut (m := 3) (by omega) (of_decide_eq_true (by kernel_rfl)) (by kernel_rfl) (by kernel_rfl))
theorem keyOf_kk {x : Int} (h1 : 0 ≤ x) (h2 : x ≤ 255) : ∃ kl, keyOf Try.prog 34 (kk x).val = some kl := by
  have ct : Try.prog.cellsOf 32 = 3 := by kernel_rfl
  have hz : ∀ d, Try.prog.keyLits (d + 1) 3 [.int .i64 0] = some [.int .i64 0] := lits_int' (by decide) (by decide)
  have hx : ∀ d, Try.prog.keyLits (d + 1) 3 [.int .i64 x] = some [.int .i64 x] := lits_int' (by omega) (by omega)
  have htid : ∀ d, Try.prog.keyLits (d + 1 + 1) 32 [.int .i64 0, .int .i64 0, .int .i64 0] = some [.int .i64 0, .int .i64 0, .int .i64 0] := fun d => by
    refine lits_fields' (ls := [[.int .i64 0], [.int .i64 0], [.int .i64 0]]) Try.underlying32 (by kernel_rfl) (by rw [ct]; rfl) _ ?_
    simp only [List.mapM_cons, List.mapM_nil, cellsInt, List.drop_zero, List.drop_succ_cons, List.take_succ_cons, List.take_zero, hz]
    rfl
  refine keyOf_struct' Try.underlying34 (by kernel_rfl) (by simp [Value.formed, Ky.val, Try.underlying34, cellsKey]) size3 fun d => ⟨_, lits_fields' (ls := [[.int .i64 x], [.int .i64 0], [.int .i64 0], [.int .i64 0, .int .i64 0, .int .i64 0]]) Try.underlying34 (by kernel_rfl) (by rw [cellsKey]; rfl) _ ?_⟩
  simp only [List.mapM_cons, List.mapM_nil, cellsInt, ct, kk, Ky.val, Value.cells, List.drop_zero, List.drop_succ_cons, List.take_succ_cons, List.take_zero, hz, hx, htid]
  rfl
theorem kval_inj {p q : Ky} (h : p.val = q.val) : p = q := by
  obtain ⟨a, b, c, d, e, f⟩ := p
  obtain ⟨a', b', c', d', e', f'⟩ := q
  unfold Ky.val at h
  simpa using h
/-- Block m is a map in which stands when each of these timers is due. -/
def DM (w : World) (m : Nat) (L : List Tm) : Prop := ∃ n R, KM Try.prog 34 w m n R ∧ ∀ k v, R k v ↔ ∃ t ∈ L, k = t.1.val ∧ v = .int .i64 t.2
section
variable {w w' : World} {m : Nat} {L L' : List Tm}
theorem DM.only {S : Nat → Prop} (h : DM w m L) (ho : Only S w w') (hn : ¬ S m) : DM w' m L := by
  obtain ⟨n, R, h1, h2⟩ := h
  exact ⟨n, R, h1.only ho hn, h2⟩
theorem DM.later (h : DM w m L) (hb : Below w.heap.size w w') : DM w' m L := h.only (Only.of_below (S := fun _ => False) hb) fun e => e
theorem DM.lt (h : DM w m L) : m < w.heap.size := by
  obtain ⟨n, R, h1, _⟩ := h
  exact h1.lt
theorem DM.congr (h : DM w m L) (he : ∀ t, t ∈ L ↔ t ∈ L') : DM w m L' := by
  obtain ⟨n, R, h1, h2⟩ := h
  exact ⟨n, R, h1, fun k v => (h2 k v).trans ⟨fun ⟨t, ht, e⟩ => ⟨t, (he t).1 ht, e⟩, fun ⟨t, ht, e⟩ => ⟨t, (he t).2 ht, e⟩⟩⟩
theorem dm_made (w : World) (c : Nat) : DM (w.alloc (.map #[] c)) w.heap.size [] := ⟨0, _, km_made _ _ w c, fun _ _ => ⟨fun h => h.elim, fun ⟨t, ht, _⟩ => by cases ht⟩⟩
theorem dm_zero (u : World) : (zeroValue 3).run Try.prog u = .ok (.int .i64 0) u := Try.zeroValue3 u
theorem DM.look (h : DM w m L) {x : Int} (h1 : 0 ≤ x) (h2 : x ≤ 255) (c : Bool) :
    (∃ d, (kk x, d) ∈ L ∧ (Instr.lookup 56 (.map (some m)) (kk x).val c).run Try.prog w = .ok (if c then .tuple #[.int .i64 d, .bool true] else .int .i64 d) w) ∨
    ((∀ t ∈ L, t.1 ≠ kk x) ∧ (Instr.lookup 56 (.map (some m)) (kk x).val c).run Try.prog w = .ok (if c then .tuple #[.int .i64 0, .bool false] else .int .i64 0) w) := by
  obtain ⟨n, R, k1, k2⟩ := h
  obtain ⟨kl, hk⟩ := keyOf_kk h1 h2
  rcases k1.look key_keyed Try.underlying56 (dm_zero w) hk c with ⟨v, hv, e⟩ | ⟨hv, e⟩
  · obtain ⟨⟨q, d⟩, ht, eq, rfl⟩ := (k2 _ _).1 hv
    have e2 : kk x = q := kval_inj eq
    subst e2
    exact Or.inl ⟨d, ht, e⟩
  · exact Or.inr ⟨fun t ht e2 => hv (.int .i64 t.2) ((k2 _ _).2 ⟨t, ht, by rw [e2], rfl⟩), e⟩
theorem DM.store (h : DM w m L) {x d : Int} (h1 : 0 ≤ x) (h2 : x ≤ 255) (hn : ∀ t ∈ L, t.1 ≠ kk x) :
    ∃ w', (Instr.mapUpdate 56 (.map (some m)) (kk x).val (.int .i64 d)).run Try.prog w = .ok () w' ∧ DM w' m ((kk x, d) :: L) ∧ Only (fun k => k = m) w w' := by
  obtain ⟨n, R, k1, k2⟩ := h
  obtain ⟨kl, hk⟩ := keyOf_kk h1 h2
  obtain ⟨w', e1, e2, e3⟩ := k1.store key_keyed Try.underlying56 (val := .int .i64 d) hk
  refine ⟨w', e1, ⟨_, _, e2, fun k v => ⟨fun hr => ?_, fun hr => ?_⟩⟩, e3⟩
  · rcases hr with ⟨rfl, rfl⟩ | ⟨_, hr⟩
    · exact ⟨_, List.mem_cons_self, rfl, rfl⟩
    · obtain ⟨t, ht, e⟩ := (k2 _ _).1 hr
      exact ⟨t, List.mem_cons_of_mem _ ht, e⟩
  · obtain ⟨t, ht, rfl, rfl⟩ := hr
    rcases List.mem_cons.1 ht with rfl | ht
    · exact Or.inl ⟨rfl, rfl⟩
    · exact Or.inr ⟨fun e => hn t ht (kval_inj e), (k2 _ _).2 ⟨t, ht, rfl, rfl⟩⟩
theorem DM.drop (h : DM w m L) {x : Int} (h1 : 0 ≤ x) (h2 : x ≤ 255) (ty : TypeId) :
    ∃ w', (Builtin.delete_ #[56, 34] ty #[.map (some m), (kk x).val]).run Try.prog w = .ok (.tuple #[]) w' ∧ DM w' m (L.filter fun t => decide (t.1 ≠ kk x)) ∧ Only (fun k => k = m) w w' := by
  obtain ⟨n, R, k1, k2⟩ := h
  obtain ⟨kl, hk⟩ := keyOf_kk h1 h2
  obtain ⟨w', e1, e2, e3⟩ := k1.drop key_keyed Try.underlying56 hk ty
  refine ⟨w', e1, ⟨_, _, e2, fun k v => ⟨fun ⟨hne, hr⟩ => ?_, fun hr => ?_⟩⟩, e3⟩
  · obtain ⟨t, ht, rfl, rfl⟩ := (k2 _ _).1 hr
    exact ⟨t, List.mem_filter.2 ⟨ht, decide_eq_true fun e => hne (by rw [e])⟩, rfl, rfl⟩
  · obtain ⟨t, ht, rfl, rfl⟩ := hr
    obtain ⟨ht1, ht2⟩ := List.mem_filter.1 ht
    exact ⟨fun e => of_decide_eq_true ht2 (kval_inj e), (k2 _ _).2 ⟨t, ht1, rfl, rfl⟩⟩
theorem DM.empty (h : DM w m []) : ∃ c, w.heap[m]? = some (.map #[] c) := by
  obtain ⟨n, R, k1, k2⟩ := h
  exact k1.none fun k v hr => by
    obtain ⟨t, ht, _⟩ := (k2 k v).1 hr
    cases ht
end
/-- A wheel, and a map in which stands when its timers are due. -/
structure Sta (B : Nat) (w : World) (rb mc : Nat) (R : Wr) (L : List Tm) (A : Option Addr) (ac : Nat) : Prop where
  whl : WcAt B w rb R A ac
  map : DM w mc L
  low : B ≤ mc
  far : ¬ wfoot rb A mc
section
variable {B rb mc ac : Nat} {w w' : World} {R R' : Wr} {L L' : List Tm} {A : Option Addr}
theorem Sta.later (h : Sta B w rb mc R L A ac) (hb : Below w.heap.size w w') : Sta B w' rb mc R L A ac := ⟨h.whl.later hb, h.map.later hb, h.low, h.far⟩
theorem Sta.step (h : Sta B w rb mc R L A ac) (hs : WcStep B rb A w R' w') : ∃ A' ac', Sta B w' rb mc R' L A' ac' := by
  obtain ⟨A', ac', k1, k2, k3⟩ := hs
  refine ⟨A', ac', k1, h.map.only k2 h.far, h.low, fun e => ?_⟩
  rcases e with e | e
  · exact h.far (Or.inl e)
  · rcases k3 mc e with e1 | e1
    · exact h.far (Or.inr e1)
    · have := h.map.lt
      omega
theorem Sta.same (h : Sta B w rb mc R L A ac) (hw : WcAt B w' rb R' A ac) (ho : Only (wfoot rb A) w w') : Sta B w' rb mc R' L A ac := ⟨hw, h.map.only ho h.far, h.low, h.far⟩
theorem Sta.turn (h : Sta B w rb mc R L A ac) (hm : DM w' mc L') (ho : Only (fun k => k = mc) w w') : Sta B w' rb mc R L' A ac :=
  ⟨h.whl.only ho (fun e => h.far (Or.inl e.symm)) fun k hk e => h.far (Or.inr (by rw [← e, ← hk, own_blk])), hm, h.low, h.far⟩
end
/-- All timers are to come, their keys apart, kinds alone. -/
structure Fut (R : Wr) (q : Int) : Prop where
  asc : Asc R.l
  uniq : Uniq R.l
  due : ∀ t ∈ R.l, R.now < t.2 ∧ t.2 ≤ 40
  kind : ∀ t ∈ R.l, ∃ x, t.1 = kk x ∧ 0 ≤ x ∧ x < q
theorem Fut.set {l : List Tm} {q : Int} (h : Fut ⟨0, l⟩ q) (hq : 0 ≤ q) {d : Int} (h1 : 1 ≤ d) (h2 : d ≤ 40) : (∀ t ∈ l, t.1 ≠ kk q) ∧ Fut ⟨0, insT (kk q, d) l⟩ (q + 1) ∧ ∀ t, t ∈ (kk q, d) :: l ↔ t ∈ insT (kk q, d) l := by
  have hn : ∀ t ∈ l, t.1 ≠ kk q := fun t ht e => by
    obtain ⟨x, e2, _, h4⟩ := h.kind t ht
    have := kk_inj (e2.symm.trans e)
    omega
  have hp := insT_perm (kk q, d) l
  have hm : ∀ t, t ∈ (kk q, d) :: l ↔ t ∈ insT (kk q, d) l := fun t => (hp.mem_iff).symm
  refine ⟨hn, ⟨insT_asc h.asc _, ?_, fun t ht => ?_, fun t ht => ?_⟩, hm⟩
  · have h3 : Uniq ((kk q, d) :: l) := List.nodup_cons.2 ⟨fun e => by obtain ⟨t, ht, e2⟩ := List.mem_map.1 e; exact hn t ht e2, h.uniq⟩
    exact ((hp.map (·.1)).nodup_iff).2 h3
  · rcases List.mem_cons.1 ((hm t).2 ht) with rfl | ht
    · show 0 < d ∧ d ≤ 40
      omega
    · exact h.due t ht
  · rcases List.mem_cons.1 ((hm t).2 ht) with rfl | ht
    · exact ⟨q, rfl, hq, by omega⟩
    · obtain ⟨x, e, h3, h4⟩ := h.kind t ht
      exact ⟨x, e, h3, by omega⟩
theorem Fut.sub {n : Int} {l l' : List Tm} {q : Int} (h : Fut ⟨n, l⟩ q) (hs : l'.Sublist l) {n' : Int} (hd : ∀ t ∈ l', n' < t.2) : Fut ⟨n', l'⟩ q :=
  ⟨List.Pairwise.sublist hs h.asc, List.Nodup.sublist (hs.map _) h.uniq, fun t ht => ⟨hd t ht, (h.due t (hs.subset ht)).2⟩, fun t ht => h.kind t (hs.subset ht)⟩
/-- A tick: what is due is due just now; the rest is to come. -/
theorem Fut.tick {n : Int} {l : List Tm} {q : Int} (h : Fut ⟨n, l⟩ q) (hn : n ≤ 41) : tickC ⟨n, l⟩ = ((l.take (untilL l (n + 1))).map (·.1), ⟨n + 1, l.drop (untilL l (n + 1))⟩) ∧ (∀ t ∈ l.take (untilL l (n + 1)), t.2 = n + 1) ∧ Fut ⟨n + 1, l.drop (untilL l (n + 1))⟩ q := by
  obtain ⟨h1, h2⟩ := asc_split h.asc (n + 1)
  refine ⟨?_, fun t ht => ?_, h.sub (List.drop_sublist _ _) h2⟩
  · unfold tickC
    dsimp only
    rw [if_neg (by omega)]
  · have h3 := h1 t ht
    have h4 := (h.due t (List.mem_of_mem_take ht)).1
    dsimp only at h4
    omega
theorem uniq_eq {l : List Tm} (h : Uniq l) {a b : Tm} (ha : a ∈ l) (hb : b ∈ l) (e : a.1 = b.1) : a = b := by
  obtain ⟨i, hi, rfl⟩ := List.getElem_of_mem ha
  obtain ⟨j, hj, rfl⟩ := List.getElem_of_mem hb
  have hp := List.pairwise_iff_getElem.1 h
  rcases Nat.lt_trichotomy i j with hlt | rfl | hlt
  · exact absurd (by rw [List.getElem_map, List.getElem_map]; exact e) (hp i j (by simpa using hi) (by simpa using hj) hlt)
  · rfl
  · exact absurd (by rw [List.getElem_map, List.getElem_map]; exact e.symm) (hp j i (by simpa using hj) (by simpa using hi) hlt)
theorem uniq_filter {l : List Tm} (h : Uniq l) {i : Nat} (hi : i < l.length) : (l.drop i).filter (fun t => decide (t.1 ≠ l[i].1)) = l.drop (i + 1) := by
  rw [List.drop_eq_getElem_cons hi, List.filter_cons, if_neg (by simp)]
  refine List.filter_eq_self.2 fun t ht => decide_eq_true fun e => ?_
  have h2 : Uniq (l.drop i) := List.Nodup.sublist ((List.drop_sublist _ _).map _) h
  unfold Uniq at h2
  rw [List.drop_eq_getElem_cons hi, List.map_cons] at h2
  exact (List.nodup_cons.1 h2).1 (List.mem_map.2 ⟨t, ht, e⟩)
end Go.Proofs.Ytnbdgjaekjneaaa.Whl
