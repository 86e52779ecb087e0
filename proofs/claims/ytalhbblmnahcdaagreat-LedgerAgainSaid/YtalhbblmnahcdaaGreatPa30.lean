/-
  Layer 8: a decision about what is prepared.
  Conditions: none.
-/
import Derived.Test.YtalhbblmnahcdaaGreatPa27
import Derived.Test.YtalhbblmnahcdaaGreatPa28
import Derived.Test.YtalhbblmnahcdaaGreatPa29
namespace Go.Proofs.YtalhbblmnahcdaaGreat.Led
set_option maxRecDepth 100000
open Go.RowKit Go.Deep Go.Proofs.YtalhbblmnahcdaaGreat.Mem Go.Proofs.YtalhbblmnahcdaaGreat.Item Go.Proofs.YtalhbblmnahcdaaGreat.Rec
theorem idxB_some {bs : List Bool} (h : ¬ idxB bs < 0) : ∃ k : Nat, idxB bs = (k : Int) ∧ ∃ hk : k < bs.length, bs[k] = true := by
  unfold idxB at h ⊢
  cases e : bs.findIdx? (fun b => b) with
  | none => rw [e] at h; exact absurd (by decide) h
  | some i =>
    obtain ⟨hi, hp, _⟩ := List.findIdx?_eq_some_iff_getElem.1 e
    exact ⟨i, rfl, hi, hp⟩
theorem at_prep_some {s : St} {u : Tid} (h : ¬ at_prep s u < 0) : ∃ k : Nat, at_prep s u = (k : Int) ∧ ∃ hk : k < s.prep.length, s.prep[k].tid = u := by
  obtain ⟨k, e, hk, hp⟩ := idxB_some h
  rw [List.length_map] at hk
  rw [List.getElem_map] at hp
  exact ⟨k, e, hk, of_decide_eq_true hp⟩
section
variable {base b : Nat} {s : St} {y : Sy} {w w0 w1 : World}
theorem rowsQ {A : Option Addr} {c : Nat} {ps' : List Lay} {n j : Nat} (hnew : ∀ j, blk A = some j → blk y.Q = some j ∨ n ≤ j) (e : rowsOf { y with Q := A, q := c, ps := ps' } j) : rowsOf y j ∨ n ≤ j := by
  rcases e with e | e | e | e
  · exact Or.inl (Or.inl e)
  · exact (grown hnew e).imp_left fun h => Or.inr (Or.inl h)
  · exact Or.inl (Or.inr (Or.inr (Or.inl e)))
  · exact Or.inl (Or.inr (Or.inr (Or.inr e)))
theorem frQ {A : Option Addr} {c : Nat} {ps' : List Lay} {x : List It} {n : List Int} {lay : Lay} (ho : Only (fun k => some k = blk y.Q) w w1) (hnew : ∀ j, blk A = some j → blk y.Q = some j ∨ w.heap.size ≤ j) (hf : Fr (fun j => sb b j ∨ rowsOf y j) w x n lay) : Fr (fun j => sb b j ∨ rowsOf { y with Q := A, q := c, ps := ps' } j) w1 x n lay :=
  hf.next (ho.mono fun _ _ e => Or.inr (Or.inr (Or.inl e))) fun j e => by
    rcases e with e | e
    · exact Or.inl (Or.inl e)
    · exact (rowsQ hnew e).imp_left Or.inr
/-- What is to be put into the variable's field of what is prepared. -/
def InsQ (base b : Nat) (y : Sy) (l' : List Pr) (ps' : List Lay) (w0 : World) (v : Value) (w : World) : Prop := ∃ A c, v = .slice A l'.length c ∧ w.ownsRow base 86 5 (.slice A l'.length c) l'.length (List.zipWith Pr.vals l' ps').flatten ∧ Only (fun k => some k = blk y.Q) w0 w ∧ (∀ j, blk A = some j → blk y.Q = some j ∨ w0.heap.size ≤ j) ∧ ps'.length = l'.length ∧
  ∀ k (h : k < l'.length) (h' : k < ps'.length), Fr (fun j => sb b j ∨ rowsOf { y with Q := A, q := c, ps := ps' } j) w l'[k].items l'[k].nodes ps'[k]
theorem insQ_step {l' : List Pr} {ps' : List Lay} {v : Value} (h0 : Own base w0 b s y) (h : InsQ base b y l' ps' w0 v w) : Step base b s y w0 { s with prep := l' } (w.setCell ⟨b, 5, none⟩ v) := by
  obtain ⟨A, c, rfl, h1, h2, h3, h4, h5⟩ := h
  have hcel := cells_only h0.cel h2 (fun e => h0.off (Or.inr (Or.inl e)))
  refine ⟨_, h0.newQ (l' := l') h2 h1 h4 h3 h5 (Only.of_set w ⟨b, 5, none⟩ _) (hcel.set_ 5 _), (h2.mono fun k _ e => Or.inr (Or.inr (Or.inl e))).trans (Only.of_set w ⟨b, 5, none⟩ _) fun k _ e => Or.inl e, fun k e => ?_⟩
  rcases e with e | e
  · exact Or.inl (Or.inl e)
  · exact (rowsQ h3 e).imp_left Or.inr
theorem insQ_cells {l' : List Pr} {ps' : List Lay} {v : Value} (h0 : Own base w0 b s y) (h : InsQ base b y l' ps' w0 v w) : ∃ A n c, v = .slice A n c ∧ w.cell? ⟨b, 5, none⟩ = some (.slice y.Q s.prep.length y.q) ∧ w.frozen? ⟨b, 5, none⟩ = false := by
  obtain ⟨A, c, rfl, h1, h2, h3, _⟩ := h
  have hcel := cells_only h0.cel h2 (fun e => h0.off (Or.inr (Or.inl e)))
  exact ⟨A, _, c, rfl, hcel.cell (j := 5) rfl, hcel.frozen (j := 5) (by unfold St.vals; simp)⟩
/-- Where the k-th of what is prepared lies. -/
theorem Own.prepAt (h : Own base w b s y) {k : Nat} (hk : k < s.prep.length) : ∃ qb, y.Q = some ⟨qb, 0, none⟩ ∧ s.prep.length ≤ y.q ∧ y.q ≤ maxLen ∧ ∃ hk' : k < y.ps.length, w.cell? ⟨qb, k * 5 + 3, none⟩ = some (.slice (y.ps[k]).A s.prep[k].items.length (y.ps[k]).c) := by
  have hl := h.lists.rowQ
  rcases hl.2 with ⟨_, h2⟩ | ⟨g, cap, cur, e, k2, k3, k4, k5, k6, k7⟩
  · omega
  · simp only [Value.slice.injEq] at e
    have hk' : k < y.ps.length := by rw [h.lists.ps]; exact hk
    refine ⟨g, e.1, by rw [e.2.2]; exact k4, by rw [e.2.2]; exact k5, hk', ?_⟩
    rw [e.1] at hl
    obtain ⟨hc, _⟩ := cells_of_own hl
    refine hc.cell ?_
    rw [flatten_at (sz := 5) (fit_prep _ _).len k (by rw [zip_len _ h.lists.ps]; exact hk) 3 (by decide), List.getElem_zipWith]
    rfl
end
/-- One of a list is left out. -/
def cut {α : Type} (l : List α) (k : Nat) : List α := l.take k ++ l.drop (k + 1)
theorem cut_len {α : Type} {l : List α} {k : Nat} (h : k < l.length) : (cut l k).length = l.length - 1 := by unfold cut; simp; omega
theorem cut_at {α : Type} {l : List α} {k j i : Nat} (hk : k < l.length) (h : j < (cut l k).length) (hi : i < l.length) (e : i = if j < k then j else j + 1) : (cut l k)[j] = l[i] := by
  apply Option.some.inj
  rw [← List.getElem?_eq_getElem h, ← List.getElem?_eq_getElem hi]
  unfold cut
  rw [List.getElem?_append, List.length_take, Nat.min_eq_left (Nat.le_of_lt hk)]
  split at e
  · rename_i hj
    rw [if_pos hj, List.getElem?_take_of_lt hj, e]
  · rename_i hj
    rw [if_neg hj, List.getElem?_drop, e]
    congr 1
    omega
theorem zip_cut (l : List Pr) (ys : List Lay) (k : Nat) (hy : ys.length = l.length) (hk : k < l.length) : List.zipWith Pr.vals (cut l k) (cut ys k) = (List.zipWith Pr.vals l ys).take k ++ (List.zipWith Pr.vals l ys).drop (k + 1) := by
  unfold cut
  rw [List.zipWith_append (by rw [List.length_take, List.length_take]; omega), List.take_zipWith, List.drop_zipWith]
/-- The one before and behind are put together. -/
theorem cut_call {base b : Nat} {s : St} {y : Sy} {w0 w : World} {qb g k o2 : Nat} (h : Own base w b s y) (h0 : Own base w0 b s y) (hb : Below w0.heap.size w0 w) (hbase : base ≤ w0.heap.size) (hs : s.prep.length ≤ 100000) (hk : k < s.prep.length) (hQ : y.Q = some ⟨qb, 0, none⟩)
    (ho2 : y.q = k + 1 ∨ o2 = (k + 1) * 5) (hcap : s.prep.length ≤ y.q) (hg : Cells w g 28 [.slice (some ⟨qb, 0, none⟩) k y.q, .slice (some ⟨qb, o2, none⟩) (s.prep.length - (k + 1)) (y.q - (k + 1))]) :
    Calls Tryz.prog 104 #[.slice (some ⟨g, 0, none⟩) 2 2] w fun e w' => ∃ v, e = .returned v ∧ InsQ base b y (cut s.prep k) (cut y.ps k) w0 v w' := by
  have hl := h.lists
  have hps := hl.ps
  obtain ⟨vs, hvs⟩ : ∃ vs, List.zipWith Pr.vals s.prep y.ps = vs := ⟨_, rfl⟩
  have hvl : vs.length = s.prep.length := by rw [← hvs]; exact zip_len _ hps
  have hrow := hl.rowQ
  rw [hQ, hvs] at hrow
  have hfit : Fit 5 vs := by rw [← hvs]; exact fit_prep _ _
  obtain ⟨hc, _⟩ := cells_of_own hrow
  have hls : LsR w (some ⟨g, 0, none⟩) [(some ⟨qb, 0, none⟩, y.q, vs.take k), (some ⟨qb, o2, none⟩, y.q - (k + 1), vs.drop (k + 1))] := by
    intro j hj
    rcases j with _ | _ | j
    · refine ⟨g, 0, rfl, ?_, fun i hi => ?_, fun e => by cases e⟩
      · have := hg.cell (j := 0) rfl
        simp only [List.getElem_cons_zero, List.length_take, hvl]
        rw [Nat.min_eq_left (Nat.le_of_lt hk)]
        exact this
      · refine ⟨qb, 0, rfl, ?_⟩
        simp only [List.getElem_cons_zero, List.length_take] at hi
        simp only [List.getElem_cons_zero, List.getElem_take]
        exact (cells_sl hc hfit.len i (by omega)).elim fun _ h => h.elim fun _ h => by
          have e := h.1
          simp only [Option.some.injEq, Addr.mk.injEq] at e
          obtain ⟨rfl, rfl, _⟩ := e
          exact h.2
    · refine ⟨g, 0, rfl, ?_, fun i hi => ?_, fun e => by cases e⟩
      · have := hg.cell (j := 1) rfl
        simp only [Nat.zero_add, List.getElem_cons_succ, List.getElem_cons_zero, List.length_drop, hvl]
        exact this
      · refine ⟨qb, o2, rfl, ?_⟩
        simp only [Nat.zero_add, List.getElem_cons_succ, List.getElem_cons_zero, List.length_drop] at hi
        simp only [Nat.zero_add, List.getElem_cons_succ, List.getElem_cons_zero, List.getElem_drop]
        have e2 : o2 = (k + 1) * 5 := by
          rcases ho2 with h | h
          · omega
          · exact h
        rw [e2, ← Nat.add_mul]
        exact (cells_sl hc hfit.len (k + 1 + i) (by omega)).elim fun _ h => h.elim fun _ h => by
          have e := h.1
          simp only [Option.some.injEq, Addr.mk.injEq] at e
          obtain ⟨rfl, rfl, _⟩ := e
          rw [Nat.zero_add] at h
          exact h.2
    · exact absurd hj (by simp)
  have hall : allR [(some (⟨qb, 0, none⟩ : Addr), y.q, vs.take k), (some (⟨qb, o2, none⟩ : Addr), y.q - (k + 1), vs.drop (k + 1))] = List.zipWith Pr.vals (cut s.prep k) (cut y.ps k) := by
    rw [zip_cut _ _ _ hps hk, hvs]
    unfold allR
    simp
  have hcl : (cut y.ps k).length = (cut s.prep k).length := by rw [cut_len (by omega), cut_len hk, hps]
  have hzl := zip_len Pr.vals hcl
  have hcat := concat_prep (some ⟨g, 0, none⟩) _ 2 w hls (by simp) (by rw [hall, hzl, cut_len hk]; omega) (fun x hx => by
    rcases List.mem_cons.1 hx with rfl | hx
    · exact hfit.sub fun v hv => List.mem_of_mem_take hv
    · rw [List.mem_singleton.1 hx]
      exact hfit.sub fun v hv => List.mem_of_mem_drop hv)
  refine hcat.mono ?_
  rintro e w' ⟨v, rfl, hr, hb'⟩
  rw [hall, hzl] at hr
  obtain ⟨A, c, rfl⟩ := row_slice hr
  have hbb := hb.trans (hb'.mono hb.size)
  have hnew : ∀ j, blk A = some j → blk y.Q = some j ∨ w0.heap.size ≤ j := fun j hA => Or.inr (Nat.le_trans hb.size (hr.lt j (by rw [own_blk]; exact hA)).1)
  have hon : Only (fun k => some k = blk y.Q) w0 w' := Only.of_below hbb
  refine ⟨_, rfl, A, c, rfl, own_up (Nat.le_trans hbase hb.size) hr, hon, hnew, hcl, fun j h1 h2 => frQ hon hnew ?_⟩
  obtain ⟨i, hi⟩ : ∃ i, i = if j < k then j else j + 1 := ⟨_, rfl⟩
  have hil : i < s.prep.length := by rw [cut_len hk] at h1; split at hi <;> omega
  rw [cut_at hk h1 hil hi, cut_at (l := y.ps) (by omega) h2 (by omega) hi]
  exact h0.lists.pin i hil (by omega)
end Go.Proofs.YtalhbblmnahcdaaGreat.Led
