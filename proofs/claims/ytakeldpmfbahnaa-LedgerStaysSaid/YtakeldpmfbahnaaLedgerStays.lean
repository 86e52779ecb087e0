/-
 Layer 8: what is decided, committed, prepared, locked stays, whatever records come but a Base, a Cell and an In: LedgerStays. Conditions: none.
-/
import Derived.Test.YtakeldpmfbahnaaLedLaw
import Derived.BigQuiet
import Derived.Deep.QuietTactic
import Derived.WalkSmall
namespace Go.Proofs.Ytakeldpmfbahnaa.Led
set_option maxRecDepth 100000
open Go.RowKit Go.Proofs.Ytakeldpmfbahnaa.Mem Go.Proofs.Ytakeldpmfbahnaa.Item Go.Proofs.Ytakeldpmfbahnaa.Rec

/-- What a record (but a Base and a Cell) keeps of a state. -/
structure Kept (s t : St) (r : Rc) : Prop where
 dec : ∀ d ∈ s.dec, ∃ (i : Nat) (hi : i < t.dec.length), at_dec t d.tid = (i : Int) ∧ t.dec[i] = d
 comLen : s.com.length ≤ t.com.length
 com : ∀ i (hi : i < s.com.length) (hi' : i < t.com.length), t.com[i].tid = s.com[i].tid ∧ (s.com[i].over = true → t.com[i].over = true)
 prep : ∀ p ∈ s.prep, ¬ (at_prep t p.tid < 0 ∧ at_dec t p.tid < 0)
 len : t.places.length = s.places.length
 pl : ∀ c, hasC s c = true → (plAt s c).hop ≤ (plAt t c).hop ∧ (r.kind ≠ 9 → owns s c = true → owns t c = true → (plAt s c).version ≤ (plAt t c).version) ∧ (locked s c = true → locked t c = true → plAt t c = plAt s c)
 epoch : s.epoch ≤ t.epoch
theorem prep_in {t : St} {p : Pr} (h : p ∈ t.prep) : ¬ at_prep t p.tid < 0 := fun hn => by
 have := (idx_neg t.prep (fun q => decide (q.tid = p.tid))).1 hn p h
 simp at this
theorem dec_in {t : St} {d : De} (h : d ∈ t.dec) : ¬ at_dec t d.tid < 0 := fun hn => by
 have := (idx_neg t.dec (fun q => decide (q.tid = d.tid))).1 hn d h
 simp at this
theorem Kept.of {s t : St} {r : Rc} (ht : Inv t) (h1 : ∀ d ∈ s.dec, d ∈ t.dec) (h2 : t.com = s.com) (h3 : ∀ p ∈ s.prep, p ∈ t.prep) (h4 : t.places.length = s.places.length)
  (h5 : ∀ c, hasC s c = true → (plAt s c).hop ≤ (plAt t c).hop ∧ (r.kind ≠ 9 → owns s c = true → owns t c = true → (plAt s c).version ≤ (plAt t c).version) ∧ (locked s c = true → locked t c = true → plAt t c = plAt s c)) (h6 : s.epoch ≤ t.epoch) : Kept s t r := by
 refine ⟨fun d hd => dec_at ht (h1 d hd), by rw [h2]; exact Nat.le_refl _, fun i hi hi' => ?_, fun p hp k => prep_in (h3 p hp) k.1, h4, h5, h6⟩
 simp only [h2]
 exact ⟨trivial, fun k => k⟩
theorem pl_same {s t : St} {r : Rc} (h : t.places = s.places) : ∀ c, hasC s c = true → (plAt s c).hop ≤ (plAt t c).hop ∧ (r.kind ≠ 9 → owns s c = true → owns t c = true → (plAt s c).version ≤ (plAt t c).version) ∧ (locked s c = true → locked t c = true → plAt t c = plAt s c) := fun c _ => by
 have e : plAt t c = plAt s c := by unfold plAt; rw [h]
 rw [e]
 exact ⟨Int.le_refl _, fun _ _ _ => Int.le_refl _, fun _ _ => rfl⟩
theorem Kept.refl {s : St} (h : Inv s) (r : Rc) : Kept s s r := Kept.of h (fun _ h => h) rfl (fun _ h => h) rfl (pl_same rfl) (Int.le_refl _)
theorem Kept.setPl {s : St} {r : Rc} {c : Int} {q : Pl} (ht : Inv (setPl s c q)) (hc : hasC s c = true) (hf : c ∉ lockC s) (hq : (plAt s c).hop ≤ q.hop) (hv : r.kind ≠ 9 → owns s c = true → q.status ≠ 1) : Kept s (setPl s c q) r := by
 refine Kept.of ht (fun _ h => h) rfl (fun _ h => h) (by unfold Led.setPl; simp) (fun c' hc' => ?_) (Int.le_refl _)
 have e := plAt_set q hc (has_nonneg hc')
 by_cases hcc : c' = c
 ·subst hcc
  rw [if_pos rfl] at e
  rw [e]
  refine ⟨hq, fun k1 k2 k3 => ?_, fun k => absurd (locked_mem k) hf⟩
  unfold owns at k3
  rw [e, Bool.and_eq_true, decide_eq_true_eq] at k3
  exact absurd k3.2 (hv k1 k2)
 ·rw [if_neg hcc] at e
  rw [e]
  exact ⟨Int.le_refl _, fun _ _ _ => Int.le_refl _, fun _ _ => rfl⟩
theorem Kept.conc {s : St} {r : Rc} (h : Inv (conc s r)) : Kept s (conc s r) r :=
 Kept.of h (fun _ hd => (insD_perm _ _).mem_iff.2 (List.mem_cons.2 (Or.inr hd))) rfl (fun _ h => h) rfl (pl_same rfl) (Int.le_refl _)
theorem Kept.past {s : St} {r : Rc} (h : Inv (fPast s r).1) (h0 : (fPast s r).2 = 0) : Kept s (fPast s r).1 r := by
 unfold fPast at h h0 ⊢
 split
 ·rename_i e; rw [if_pos e] at h0; cases h0
 rename_i e; rw [if_neg e] at h0 h
 split
 ·rename_i e2; rw [if_pos e2] at h0; cases h0
 rename_i e2; rw [if_neg e2] at h0 h
 split
 ·rename_i e3; rw [if_pos e3] at h0; cases h0
 rename_i e3; rw [if_neg e3] at h
 exact Kept.conc h
theorem done_not_locked {s : St} (h : Inv s) {k : Nat} (hk : k < s.prep.length) (r : Rc) {c : Int} (hc : locked (done s k r) c = true) : c ∉ s.prep[k].items.map It.cell := fun hm => (h.parts hk).2.2 c hm (show c ∈ lockC (done s k r) from locked_mem hc)
theorem Kept.done {s : St} (h : Inv s) {k : Nat} (hk : k < s.prep.length) (r : Rc) (he : s.prep[k].tid = r.tid) : Kept s (done s k r) r := by
 have ht := h.done hk r he
 obtain ⟨c1, c2, c3⟩ := h.parts hk
 refine ⟨fun _ hd => dec_at ht (by rw [done_dec]; exact (insD_perm _ _).mem_iff.2 (List.mem_cons.2 (Or.inr hd))), by rw [done_com]; exact Nat.le_refl _, fun i hi hi' => ?_, fun p hp k2 => ?_, done_len _ _ _, fun c hc => ?_, by rw [done_epoch]; exact Int.le_refl _⟩
 ·simp only [done_com]
  exact ⟨trivial, fun k => k⟩
 ·rcases List.mem_cons.1 ((cut_perm s.prep k hk).mem_iff.1 hp) with e | e
  ·refine dec_in (t := Led.done s k r) (d := ⟨r.tid, r.yes⟩) (by rw [done_dec]; exact (insD_perm _ _).mem_iff.2 (List.mem_cons.2 (Or.inl rfl))) ?_
   have : p.tid = r.tid := by rw [e, he]
   rw [← this]
   exact k2.2
  ·exact prep_in (t := Led.done s k r) (p := p) e k2.1
 ·have hc0 := has_nonneg hc
  refine ⟨by rw [(done_keep s k r hc0).1]; exact Int.le_refl _, fun _ _ _ => ?_, fun _ k2 => done_not s k r hc0 (by rw [prItems_at hk]; exact done_not_locked h hk r k2)⟩
  by_cases hm : c ∈ s.prep[k].items.map It.cell
  ·obtain ⟨x, hx, rfl⟩ := List.mem_map.1 hm
   obtain ⟨v1, v2, v3, v4⟩ := h.lk _ (List.getElem_mem hk) x hx
   rw [done_at]
   split
   ·rw [prItems_at hk, writeL_at s _ c1 hx hc]
    unfold Led.wrote
    split
    ·simp only
     rw [v2, IntWalk.i64_in _ (by omega)]
     omega
    ·exact Int.le_refl _
   ·exact Int.le_refl _
  ·rw [done_not s k r hc0 (by rw [prItems_at hk]; exact hm)]
   exact Int.le_refl _
theorem com_set {s : St} (k : Nat) : s.com.length ≤ (overS s k).com.length ∧ ∀ i (hi : i < s.com.length) (hi' : i < (overS s k).com.length), (overS s k).com[i].tid = s.com[i].tid ∧ (s.com[i].over = true → (overS s k).com[i].over = true) := by
 refine ⟨by unfold overS; simp, fun i hi hi' => ?_⟩
 have e : (overS s k).com[i] = if k = i then { coAt s k with over := true } else s.com[i] := List.getElem_set ..
 rw [e]
 split
 ·rename_i hki
  subst hki
  have : coAt s k = s.com[k] := by unfold coAt; rw [List.getElem?_eq_getElem hi]; rfl
  rw [this]
  exact ⟨rfl, fun _ => rfl⟩
 ·exact ⟨rfl, fun h => h⟩
/-- What was decided, committed, prepared, locked stays. -/
theorem kept {s : St} (h : Inv s) (r : Rc) (h0 : (fFollow s r).2 = 0) (n1 : r.kind ≠ 1) (n3 : r.kind ≠ 3) : Kept s (fFollow s r).1 r := by
 have hi := h.follow r h0
 unfold fFollow at h0 hi ⊢
 split
 ·rename_i e; rw [if_pos e] at h0; cases h0
 rename_i e; rw [if_neg e] at h0 hi
 have hr : right r = true := by simpa using e
 unfold byKind at h0 hi ⊢
 rw [if_neg n1] at h0 hi ⊢
 split
 ·rename_i k; rw [if_pos k] at h0 hi
  unfold fBegin at h0 hi ⊢
  split
  ·rename_i e; rw [if_pos e] at h0; cases h0
  ·rename_i e; rw [if_neg e] at hi
   exact Kept.of hi (fun _ h => h) rfl (fun _ h => h) rfl (pl_same rfl) (by simp only; omega)
 rename_i k2; rw [if_neg k2] at h0 hi
 rw [if_neg n3] at h0 hi
 try rw [if_neg n3]
 split
 ·rename_i k; rw [if_pos k] at h0 hi
  unfold fPrepare at h0 hi ⊢
  split
  ·rename_i e; rw [if_pos e] at h0; cases h0
  rename_i e1; rw [if_neg e1] at h0 hi
  split
  ·rename_i e; rw [if_pos e] at h0; cases h0
  rename_i e2; rw [if_neg e2] at h0 hi
  split
  ·rename_i e; rw [if_pos e] at h0; cases h0
  rename_i e3; rw [if_neg e3] at h0 hi
  split
  ·rename_i e; rw [if_pos e] at h0; cases h0
  rename_i e4; rw [if_neg e4] at h0 hi
  split
  ·rename_i e; rw [if_pos e] at h0; cases h0
  rename_i e5; rw [if_neg e5] at h0 hi
  split
  ·rename_i e6; rw [if_pos e6] at h0 hi
   split
   ·rename_i e; rw [if_pos e] at h0; cases h0
   ·rename_i e7; rw [if_neg e7] at hi
    exact Kept.of hi (fun _ h => h) rfl (fun p hp => (insAt_perm _ _ _).mem_iff.2 (List.mem_cons.2 (Or.inr hp))) rfl (pl_same rfl) (Int.le_refl _)
  ·rename_i e6; rw [if_neg e6] at h0
   exact absurd h0 e6
 rename_i k4; rw [if_neg k4] at h0 hi
 split
 ·rename_i k; rw [if_pos k] at h0 hi
  by_cases hd : at_prep s r.tid < 0
  ·have e : fDecide s r = fRefuse s r := by unfold fDecide; rw [if_pos hd]
   rw [e] at h0 hi ⊢
   unfold fRefuse at h0 hi ⊢
   split
   ·rename_i e1; rw [if_pos e1] at h0; cases h0
   rename_i e1; rw [if_neg e1] at h0 hi
   split
   ·rename_i e2; rw [if_pos e2] at h0; cases h0
   rename_i e2; rw [if_neg e2] at h0 hi
   exact Kept.past hi h0
  ·obtain ⟨m, hm, e, ht⟩ := dec_of hd
   rw [fDecide_done e]
   exact Kept.done h hm r ht
 rename_i k6; rw [if_neg k6] at h0 hi
 split
 ·rename_i k; rw [if_pos k] at h0 hi
  exact Kept.past hi h0
 rename_i k11; rw [if_neg k11] at h0 hi
 split
 ·rename_i k; rw [if_pos k] at h0 hi
  unfold fCommit at h0 hi ⊢
  split
  ·rename_i e; rw [if_pos e] at h0; cases h0
  rename_i e1; rw [if_neg e1] at h0 hi
  split
  ·rename_i e; rw [if_pos e] at h0; cases h0
  rename_i e2; rw [if_neg e2] at h0 hi
  split
  ·rename_i e; rw [if_pos e] at h0; cases h0
  rename_i e3; rw [if_neg e3] at h0 hi
  split
  ·rename_i e; rw [if_pos e] at h0; cases h0
  rename_i e4; rw [if_neg e4] at hi
  refine ⟨fun d hd => dec_at hi hd, by simp, fun i j1 j2 => ?_, fun p hp k => prep_in (t := { s with com := s.com ++ [rcCo r] }) hp k.1, rfl, pl_same rfl, Int.le_refl _⟩
  simp only
  rw [List.getElem_append_left j1]
  exact ⟨rfl, fun k => k⟩
 rename_i k5; rw [if_neg k5] at h0 hi
 split
 ·rename_i k; rw [if_pos k] at h0 hi
  unfold fEnd at h0 hi ⊢
  split
  ·rename_i e; rw [if_pos e] at h0; cases h0
  rename_i e1; rw [if_neg e1] at h0 hi
  split
  ·rename_i e; rw [if_pos e] at h0; cases h0
  rename_i e2; rw [if_neg e2] at hi
  have hc := com_set (s := s) (at_com s r.tid).toNat
  exact ⟨fun d hd => dec_at hi hd, hc.1, hc.2, fun p hp k => prep_in (t := overS s (at_com s r.tid).toNat) hp k.1, rfl, pl_same rfl, Int.le_refl _⟩
 rename_i k7; rw [if_neg k7] at h0 hi
 split
 ·rename_i k; rw [if_pos k] at h0 hi
  unfold fOut at h0 hi ⊢
  split
  ·rename_i e; rw [if_pos e] at h0; cases h0
  rename_i e1; rw [if_neg e1] at h0 hi
  split
  ·rename_i e; rw [if_pos e] at h0; cases h0
  rename_i e2; rw [if_neg e2] at h0 hi
  split
  ·rename_i e; rw [if_pos e] at h0; cases h0
  rename_i e3; rw [if_neg e3] at h0 hi
  split
  ·rename_i e; rw [if_pos e] at h0; cases h0
  rename_i e4; rw [if_neg e4] at h0 hi
  split
  ·rename_i e; rw [if_pos e] at h0; cases h0
  rename_i e5; rw [if_neg e5] at h0 hi
  split
  ·rename_i e; rw [if_pos e] at h0; cases h0
  rename_i e6; rw [if_neg e6] at hi
  have hc : hasC s r.cell = true := by simpa using e1
  have hh := h.hp r.cell hc
  have he : r.hop = IntKind.i64.wrap ((plAt s r.cell).hop + 1) := by simpa using e6
  rw [IntWalk.i64_in _ (by omega)] at he
  exact Kept.setPl hi hc (fun hm => e5 (by rw [locked_eq, hc, decide_eq_true hm]; rfl)) (by simp only; omega) (fun _ _ => by simp)
 rename_i k8; rw [if_neg k8] at h0 hi
 split
 ·rename_i k; rw [if_pos k] at h0 hi
  unfold fIn at h0 hi ⊢
  split
  ·rename_i e; rw [if_pos e] at h0; cases h0
  rename_i e1; rw [if_neg e1] at h0 hi
  split
  ·rename_i e; rw [if_pos e] at h0; cases h0
  rename_i e2; rw [if_neg e2] at h0 hi
  split
  ·rename_i e; rw [if_pos e] at h0; cases h0
  rename_i e3; rw [if_neg e3] at hi
  have hc : hasC s r.cell = true := by simpa using e1
  exact Kept.setPl hi hc (h.free (owns_no e2)) (by simp only; omega) (fun k9 => absurd k k9)
 rename_i k9; rw [if_neg k9] at h0 hi
 split
 ·rename_i k; rw [if_pos k] at h0 hi
  unfold fGone at h0 hi ⊢
  split
  ·rename_i e; rw [if_pos e] at h0; cases h0
  rename_i e1; rw [if_neg e1] at h0 hi
  split
  ·rename_i e; rw [if_pos e] at h0; cases h0
  rename_i e2; rw [if_neg e2] at h0 hi
  split
  ·rename_i e; rw [if_pos e] at h0; cases h0
  rename_i e3; rw [if_neg e3] at hi
  have hc : hasC s r.cell = true := by simpa using e1
  have hno := status_owns (s := s) (c := r.cell) (by simpa using e2)
  exact Kept.setPl hi hc (h.free hno) (by simp only; omega) (fun _ k => by rw [hno] at k; cases k)
 exact Kept.refl h r
end Go.Proofs.Ytakeldpmfbahnaa.Led
namespace Go.Proofs.Ytakeldpmfbahnaa.LedgerStays
set_option maxRecDepth 100000
open Go.ChangeShapes Go.WideShapes Go.ChangeAt Go.RowKit Go.Deep Go.Proofs.Ytakeldpmfbahnaa.Mem Go.Proofs.Ytakeldpmfbahnaa.Item Go.Proofs.Ytakeldpmfbahnaa.Rec Go.Proofs.Ytakeldpmfbahnaa.Led

theorem de_neq (a b c : Int) (d : Bool) (w : World) : (binOp .neq 44 (.agg #[.int .i64 a, .int .i64 b, .int .i64 c, .bool d]) (.agg #[.int .i64 a, .int .i64 b, .int .i64 c, .bool d])).run Try.prog w = .ok (.bool false) w := by
 have e1 : Try.prog.underlying 44 = some (.struct (Try.prog.fieldsOf 44)) := by kernel_rfl
 have e2 : Try.prog.stoodInHeld 44 = false := by kernel_rfl
 rw [run_neq_struct, run_equalIn_agg w _ _ _ _ e1 e2]
 obtain ⟨f0, f1, hf, t0, t1, o0, o1, n0, n1⟩ : ∃ f0 f1 : Field, (Try.prog.fieldsOf 44).toList = [f0, f1] ∧ f0.type = 37 ∧ f1.type = 4 ∧ f0.offset = 0 ∧ f1.offset = 3 ∧ f0.name ≠ "_" ∧ f1.name ≠ "_" := ⟨_, _, rfl, rfl, rfl, rfl, rfl, by decide, by decide⟩
 have hv := Try.underlying4
 rw [hf]
 simp [Op.eqFields, n0, n1, t0, t1, o0, o1, go_sem, hv]

theorem zip_len2 {α β γ : Type} {f : α → β → γ} (l : List α) {m : List β} (h : m.length = l.length) : (List.zipWith f l m).length = l.length := by rw [List.length_zipWith]; omega
/-- Where the state stands. -/
structure Lo (w wr : World) (s : St) (y : Sy) (b5 : Nat) : Prop where
 low : Below w.heap.size w wr
 box : Cells wr b5 32 (s.vals y)
 sees : ∀ w', Only (fun k => k = b5) wr w' → Sees w' s y
 gt : w.heap.size ≤ b5
theorem Lo.later {w wr w' : World} {s : St} {y : Sy} {b5 : Nat} (h : Lo w wr s y b5) (hb : Below wr.heap.size wr w') : Lo w w' s y b5 := ⟨h.low.trans (hb.mono h.low.size), h.box.later hb, fun w2 h2 => h.sees w2 ((Only.of_below hb).trans h2 fun _ _ e => e), h.gt⟩
theorem Lo.see {w wr : World} {s : St} {y : Sy} {b5 : Nat} (h : Lo w wr s y b5) : Sees wr s y := h.sees _ (Only.refl _ _)
/-- Where both states stand. -/
structure Mi (w wr : World) (s t : St) (r : Rc) (y z : Sy) (lay : Lay) (b5 b8 b9 : Nat) : Prop where
 lo : Lo w wr s y b5
 recd : Cells wr b8 41 (r.vals lay)
 box : Cells wr b9 32 (t.vals z)
 sees : ∀ w', Only (fun k => k = b5) wr w' → Sees w' t z
 ne : b5 ≠ b9
theorem Mi.later {w wr w' : World} {s t : St} {r : Rc} {y z : Sy} {lay : Lay} {b5 b8 b9 : Nat} (h : Mi w wr s t r y z lay b5 b8 b9) (hb : Below wr.heap.size wr w') : Mi w w' s t r y z lay b5 b8 b9 := ⟨h.lo.later hb, h.recd.later hb, h.box.later hb, fun w2 h2 => h.sees w2 ((Only.of_below hb).trans h2 fun _ _ e => e), h.ne⟩
theorem Mi.see {w wr : World} {s t : St} {r : Rc} {y z : Sy} {lay : Lay} {b5 b8 b9 : Nat} (h : Mi w wr s t r y z lay b5 b8 b9) : Sees wr t z := h.sees _ (Only.refl _ _)
/-- The second state takes the first one's place. -/
theorem Mi.store {w wr w' : World} {s t : St} {r : Rc} {y z : Sy} {lay : Lay} {b5 b8 b9 : Nat} (h : Mi w wr s t r y z lay b5 b8 b9) (hp : Cells w' b5 32 (t.vals z)) (ho : Only (fun k => k = b5) wr w') : Lo w w' t z b5 := ⟨h.lo.low.trans (ho.below h.lo.low.size fun j e => by rw [e]; exact h.lo.gt), hp, fun w2 h2 => h.sees w2 (ho.trans h2 fun _ _ e => e), h.lo.gt⟩
/-- Where both states, and a place of each, stand. -/
structure Pa (w wr : World) (s t : St) (r : Rc) (y z : Sy) (lay : Lay) (b5 b8 b9 g1 g2 : Nat) (P1 P2 : Pl) : Prop where
 mi : Mi w wr s t r y z lay b5 b8 b9
 c1 : Cells wr g1 51 P1.vals
 c2 : Cells wr g2 51 P2.vals
theorem Pa.later {w wr w' : World} {s t : St} {r : Rc} {y z : Sy} {lay : Lay} {b5 b8 b9 g1 g2 : Nat} {P1 P2 : Pl} (h : Pa w wr s t r y z lay b5 b8 b9 g1 g2 P1 P2) (hb : Below wr.heap.size wr w') : Pa w w' s t r y z lay b5 b8 b9 g1 g2 P1 P2 := ⟨h.mi.later hb, h.c1.later hb, h.c2.later hb⟩

/-- A piece of a function's code. -/
def sub : List Nat → Code → Code
 | 0 :: p, .seq a _ => sub p a
 | 1 :: p, .seq _ b => sub p b
 | 0 :: p, .cond _ a _ => sub p a
 | 1 :: p, .cond _ _ b => sub p b
 | 0 :: p, .block _ a => sub p a
 | 0 :: p, .loop a => sub p a
 | _, c => c
set_option maxHeartbeats 4000000 in
/-- The loop over what is decided. -/
theorem loop2 {W wr : World} {s t : St} {r : Rc} {y z : Sy} {z1 : Lay} {b5 b8 b9 k nd : Nat} (HM : Hid (Mi W wr s t r y z z1 b5 b8 b9)) (HND : Hid (s.dec.length = nd)) (hndb : nd ≤ 1000) (HFZ : Hid (Sz (k + 1) t)) (HK : Hid (Kept s t r)) (hk : k ≤ 80)
  {c : Code} (hc : c = sub [1, 1, 1, 1, 1, 0, 1, 0, 0, 1, 1, 0, 0, 1, 1, 1, 1, 0, 1, 0] ((Try.f3.body).getD .skip)) {s0 s1 s2 s3 s4 s6 s7 s10 s11 s12 s13 s14 s15 s16 s17 s18 s19 s20 s21 s22 s23 s24 s25 s26 s27 s28 s29 s30 s31 s32 s33 s34 s35 s36 s37 s38 s39 s40 s41 s42 s43 s44 s45 s46 s47 s48 s49 s50 s51 s52 s53 s54 s55 s56 s57 s58 s59 s60 s61 s65 s66 s67 s68 s69 s70 s71 s72 s73 s74 s75 s76 s77 s78 s79 s80 s81 s82 s83 s84 s85 s86 s87 s88 s89 s90 s91 s92 s93 s94 s95 s96 s97 s98 s99 s100 s101 s102 s103 s104 s105 s106 s107 s108 s109 s110 s111 s112 s113 s114 s115 s116 s117 s118 s119 s120 s121 s122 s123 s124 s125 s126 s127 s128 s129 s130 s131 s132 s133 s134 s135 s136 s137 s138 s139 s140 s141 s142 s143 s144 s145 s146 s147 s148 s149 s150 s151 s152 s153 s154 s155 s156 s157 s158 s159 s160 s161 s162 s163 s164 s165 s166 s167 s168 s169 s170 s171 s172 s173 s174 s175 s176 s177 s178 s179 s180 s181 s182 s183 s184 s185 s186 s187 s188 s189 s190 s191 s192 s193 s194 s195 s196 s197 s198 s199 s200 s201 s202 : Value} {Q : Exit → Act → World → Prop}
  (hQ : ∀ (u4 u12 u13 u64 u65 u66 u67 u68 u69 u70 u71 u72 u73 u74 u75 u76 u77 u78 u79 u80 u81 u82 u83 : Value) (w' : World), Hid (Mi W w' s t r y z z1 b5 b8 b9) → Q (.exit 2) { tmps := List.toArray (s0::s1::s2::s3::u4::.pointer (some ⟨b5, 0, none⟩)::s6::s7::.pointer (some ⟨b8, 0, none⟩)::.pointer (some ⟨b9, 0, none⟩)::s10::s11::u12::u13::s14::s15::s16::s17::s18::s19::s20::s21::s22::s23::s24::s25::s26::s27::s28::s29::s30::s31::s32::s33::s34::s35::s36::s37::s38::s39::s40::s41::s42::s43::s44::s45::s46::s47::s48::s49::s50::s51::s52::s53::s54::s55::s56::s57::s58::s59::s60::s61::.slice y.D nd y.d::.int .i64 (nd : Int)::u64::u65::u66::u67::u68::u69::u70::u71::u72::u73::u74::u75::u76::u77::u78::u79::u80::u81::u82::u83::s84::s85::s86::s87::s88::s89::s90::s91::s92::s93::s94::s95::s96::s97::s98::s99::s100::s101::s102::s103::s104::s105::s106::s107::s108::s109::s110::s111::s112::s113::s114::s115::s116::s117::s118::s119::s120::s121::s122::s123::s124::s125::s126::s127::s128::s129::s130::s131::s132::s133::s134::s135::s136::s137::s138::s139::s140::s141::s142::s143::s144::s145::s146::s147::s148::s149::s150::s151::s152::s153::s154::s155::s156::s157::s158::s159::s160::s161::s162::s163::s164::s165::s166::s167::s168::s169::s170::s171::s172::s173::s174::s175::s176::s177::s178::s179::s180::s181::s182::s183::s184::s185::s186::s187::s188::s189::s190::s191::s192::s193::s194::s195::s196::s197::s198::s199::s200::s201::s202::[]), defers := [] } w') :
  Code.wp Try.prog c Q { tmps := List.toArray (s0::s1::s2::s3::s4::.pointer (some ⟨b5, 0, none⟩)::s6::s7::.pointer (some ⟨b8, 0, none⟩)::.pointer (some ⟨b9, 0, none⟩)::s10::s11::s12::s13::s14::s15::s16::s17::s18::s19::s20::s21::s22::s23::s24::s25::s26::s27::s28::s29::s30::s31::s32::s33::s34::s35::s36::s37::s38::s39::s40::s41::s42::s43::s44::s45::s46::s47::s48::s49::s50::s51::s52::s53::s54::s55::s56::s57::s58::s59::s60::s61::.slice y.D nd y.d::.int .i64 (nd : Int)::.int .i64 0::s65::s66::s67::s68::s69::s70::s71::s72::s73::s74::s75::s76::s77::s78::s79::s80::s81::s82::s83::s84::s85::s86::s87::s88::s89::s90::s91::s92::s93::s94::s95::s96::s97::s98::s99::s100::s101::s102::s103::s104::s105::s106::s107::s108::s109::s110::s111::s112::s113::s114::s115::s116::s117::s118::s119::s120::s121::s122::s123::s124::s125::s126::s127::s128::s129::s130::s131::s132::s133::s134::s135::s136::s137::s138::s139::s140::s141::s142::s143::s144::s145::s146::s147::s148::s149::s150::s151::s152::s153::s154::s155::s156::s157::s158::s159::s160::s161::s162::s163::s164::s165::s166::s167::s168::s169::s170::s171::s172::s173::s174::s175::s176::s177::s178::s179::s180::s181::s182::s183::s184::s185::s186::s187::s188::s189::s190::s191::s192::s193::s194::s195::s196::s197::s198::s199::s200::s201::s202::[]), defers := [] } wr := by
 have HQ := Lib.hid hQ
 clear hQ
 conv at hc => rhs; whnf
 subst hc
 go_loopw [64] (fun i wr => ∃ j : Nat, j ≤ nd ∧ i = .int .i64 (j : Int) ∧ Hid (Mi W wr s t r y z z1 b5 b8 b9)) (fun i _ => nd - (intOf i).toNat)
 case atStart => exact ⟨0, Nat.zero_le _, rfl, HM⟩
 case round =>
  clear HM
  obtain ⟨j, hj, rfl, HM⟩ := hrel
  by_cases hjt : j < nd
  ·have hjl : j < s.dec.length := by have := HND.out; omega
   obtain ⟨db, dof, hD, hrow⟩ := HM.out.lo.see.dec j (by rw [List.length_map]; exact hjl)
   rw [List.getElem_map] at hrow
   obtain ⟨i, hi, hat, hde⟩ := HK.out.dec s.dec[j] (List.getElem_mem hjl)
   obtain ⟨eb, eo, hE, hrow2⟩ := HM.out.see.dec i (by rw [List.length_map]; exact hi)
   rw [List.getElem_map, hde] at hrow2
   obtain ⟨d, hd⟩ : ∃ d, s.dec[j] = d := ⟨_, rfl⟩
   rw [hd] at hrow hat hrow2
   clear hde hd hjl
   have HIL := Lib.hid hi
   have HE := Lib.hid hE
   have x0 : wr.cell? ⟨db, dof + j * 4, none⟩ = some (.int .i64 d.tid.node) := hrow 0 _ rfl
   have x1 : wr.cell? ⟨db, dof + j * 4 + 1, none⟩ = some (.int .i64 d.tid.epoch) := hrow 1 _ rfl
   have x2 : wr.cell? ⟨db, dof + j * 4 + 2, none⟩ = some (.int .i64 d.tid.seq) := hrow 2 _ rfl
   have x3 : wr.cell? ⟨db, dof + j * 4 + 3, none⟩ = some (.bool d.yes) := hrow 3 _ rfl
   have y0 : wr.cell? ⟨eb, eo + i * 4, none⟩ = some (.int .i64 d.tid.node) := hrow2 0 _ rfl
   have y1 : wr.cell? ⟨eb, eo + i * 4 + 1, none⟩ = some (.int .i64 d.tid.epoch) := hrow2 1 _ rfl
   have y2 : wr.cell? ⟨eb, eo + i * 4 + 2, none⟩ = some (.int .i64 d.tid.seq) := hrow2 2 _ rfl
   have y3 : wr.cell? ⟨eb, eo + i * 4 + 3, none⟩ = some (.bool d.yes) := hrow2 3 _ rfl
   obtain ⟨w6, hw6⟩ : ∃ v, v = wr.alloc (.cells #[.int .i64 d.tid.node, .int .i64 d.tid.epoch, .int .i64 d.tid.seq, .bool d.yes] 44) := ⟨_, rfl⟩
   have hb6 : Below wr.heap.size wr w6 := by rw [hw6]; exact below_alloc _ _
   have HM6 := Lib.hid (HM.out.later hb6)
   have HC6 : Hid (Cells w6 wr.heap.size 44 d.vals) := Lib.hid (by rw [hw6]; exact cells_new _ _ _ _ rfl)
   have HY : Hid (w6.cell? ⟨eb, eo + i * 4, none⟩ = some (.int .i64 d.tid.node) ∧ w6.cell? ⟨eb, eo + i * 4 + 1, none⟩ = some (.int .i64 d.tid.epoch) ∧ w6.cell? ⟨eb, eo + i * 4 + 2, none⟩ = some (.int .i64 d.tid.seq) ∧ w6.cell? ⟨eb, eo + i * 4 + 3, none⟩ = some (.bool d.yes)) := Lib.hid ⟨lowc hb6 y0, lowc hb6 y1, lowc hb6 y2, lowc hb6 y3⟩
   have HFD := Lib.hid (Find_dec t z d.tid w6 HM6.out.see (by have := HFZ.out.dec; omega))
   rw [hat] at HFD
   unfold St.val Tid.val at HFD
   have hq := HM.out.box
   unfold St.vals at hq
   have r0 := hq.cell (j := 0) rfl
   have r1 := hq.cell (j := 1) rfl
   have r2 := hq.cell (j := 2) rfl
   have r3 := hq.cell (j := 3) rfl
   have r4 := hq.cell (j := 4) rfl
   have r5 := hq.cell (j := 5) rfl
   have r6 := hq.cell (j := 6) rfl
   have r7 := hq.cell (j := 7) rfl
   have hlt9 := hq.lt
   clear hq hrow hrow2 y0 y1 y2 y3 hi hE hat hb6
   simp only [hD]
   clear hD
   go_wp2_with fail
   rw [← hw6]
   clear hw6 hlt9 r0 r1 r2 r3 r4 r5 r6 r7 x0 x1 x2 x3
   refine HFD.out.mono ?_
   rintro e w7 ⟨rfl, hb7⟩
   obtain ⟨b12, hb12⟩ : ∃ b, wr.heap.size = b := ⟨_, rfl⟩
   rw [hb12] at HC6 ⊢
   have HM7 := Lib.hid (HM6.out.later hb7)
   have hc7 := HC6.out.later hb7
   have c0 := hc7.cell (j := 0) rfl
   have c1 := hc7.cell (j := 1) rfl
   have c2 := hc7.cell (j := 2) rfl
   have c3 := hc7.cell (j := 3) rfl
   have y0 := lowc hb7 HY.out.1
   have y1 := lowc hb7 HY.out.2.1
   have y2 := lowc hb7 HY.out.2.2.1
   have y3 := lowc hb7 HY.out.2.2.2
   have r6 := HM7.out.box.cell (j := 6) rfl
   rw [HE.out] at r6
   have hil := HIL.out
   have hii : ¬ (i : Int) < 0 := by omega
   have hne := de_neq d.tid.node d.tid.epoch d.tid.seq d.yes
   clear HFD HY HC6 hc7 HM6 hb7 hb12 HE HIL HM
   go_upto_region 19 with (fail)
   go_cut [82] from 72 to 82 (fun v wx => v = .bool false ∧ Below w7.heap.size w7 wx)
   case first =>
    go_quiet (fail)
    go_wp2_with fail
    go_meet
    exact ⟨rfl, below_drewN _ _⟩
   case rest =>
    obtain ⟨rfl, hbq⟩ := hcut
    have HM8 := Lib.hid (HM7.out.later hbq)
    clear c0 c1 c2 c3 y0 y1 y2 y3 r6 hii hne hil HM7 hbq
    go_wp2_with fail
    go_roundw
    case rel => exact ⟨j + 1, by omega, by go_num, HM8⟩
    case measure => simp [intOf]; omega
  ·go_wp2_with fail
   exact HQ.out _ _ _ _ _ _ _ _ _ _ _ _ _ _ _ _ _ _ _ _ _ _ _ wr HM
set_option maxHeartbeats 4000000 in
/-- The loop over the commits. -/
theorem loop3 {W wr : World} {s t : St} {r : Rc} {y z : Sy} {z1 : Lay} {b5 b8 b9 k nc : Nat} (HM : Hid (Mi W wr s t r y z z1 b5 b8 b9)) (HNC : Hid (s.com.length = nc)) (hncb : nc ≤ 1000) (HK : Hid (Kept s t r)) (_hk : k ≤ 80)
  {c : Code} (hc : c = sub [1, 1, 1, 1, 1, 0, 1, 0, 0, 1, 1, 0, 0, 1, 1, 1, 1, 1, 0, 1, 0] ((Try.f3.body).getD .skip)) {s0 s1 s2 s3 s4 s6 s7 s10 s11 s12 s13 s14 s15 s16 s17 s18 s19 s20 s21 s22 s23 s24 s25 s26 s27 s28 s29 s30 s31 s32 s33 s34 s35 s36 s37 s38 s39 s40 s41 s42 s43 s44 s45 s46 s47 s48 s49 s50 s51 s52 s53 s54 s55 s56 s57 s58 s59 s60 s61 s62 s63 s64 s65 s66 s67 s68 s69 s70 s71 s72 s73 s74 s75 s76 s77 s78 s79 s80 s81 s82 s83 s84 s88 s89 s90 s91 s92 s93 s94 s95 s96 s97 s98 s99 s100 s101 s102 s103 s104 s105 s106 s107 s108 s109 s110 s111 s112 s113 s114 s115 s116 s117 s118 s119 s120 s121 s122 s123 s124 s125 s126 s127 s128 s129 s130 s131 s132 s133 s134 s135 s136 s137 s138 s139 s140 s141 s142 s143 s144 s145 s146 s147 s148 s149 s150 s151 s152 s153 s154 s155 s156 s157 s158 s159 s160 s161 s162 s163 s164 s165 s166 s167 s168 s169 s170 s171 s172 s173 s174 s175 s176 s177 s178 s179 s180 s181 s182 s183 s184 s185 s186 s187 s188 s189 s190 s191 s192 s193 s194 s195 s196 s197 s198 s199 s200 s201 s202 : Value} {Q : Exit → Act → World → Prop}
  (hQ : ∀ (u4 u14 u15 u87 u88 u89 u90 u91 u92 u93 u94 u95 u96 u97 u98 u99 u100 u101 u102 u103 u104 u105 u106 u107 u108 u109 u110 u111 u112 u113 u114 u115 u116 u117 u118 u119 u120 u121 : Value) (w' : World), Hid (Mi W w' s t r y z z1 b5 b8 b9) → Q (.exit 4) { tmps := List.toArray (s0::s1::s2::s3::u4::.pointer (some ⟨b5, 0, none⟩)::s6::s7::.pointer (some ⟨b8, 0, none⟩)::.pointer (some ⟨b9, 0, none⟩)::s10::s11::s12::s13::u14::u15::s16::s17::s18::s19::s20::s21::s22::s23::s24::s25::s26::s27::s28::s29::s30::s31::s32::s33::s34::s35::s36::s37::s38::s39::s40::s41::s42::s43::s44::s45::s46::s47::s48::s49::s50::s51::s52::s53::s54::s55::s56::s57::s58::s59::s60::s61::s62::s63::s64::s65::s66::s67::s68::s69::s70::s71::s72::s73::s74::s75::s76::s77::s78::s79::s80::s81::s82::s83::s84::.slice y.C nc y.c::.int .i64 (nc : Int)::u87::u88::u89::u90::u91::u92::u93::u94::u95::u96::u97::u98::u99::u100::u101::u102::u103::u104::u105::u106::u107::u108::u109::u110::u111::u112::u113::u114::u115::u116::u117::u118::u119::u120::u121::s122::s123::s124::s125::s126::s127::s128::s129::s130::s131::s132::s133::s134::s135::s136::s137::s138::s139::s140::s141::s142::s143::s144::s145::s146::s147::s148::s149::s150::s151::s152::s153::s154::s155::s156::s157::s158::s159::s160::s161::s162::s163::s164::s165::s166::s167::s168::s169::s170::s171::s172::s173::s174::s175::s176::s177::s178::s179::s180::s181::s182::s183::s184::s185::s186::s187::s188::s189::s190::s191::s192::s193::s194::s195::s196::s197::s198::s199::s200::s201::s202::[]), defers := [] } w') :
  Code.wp Try.prog c Q { tmps := List.toArray (s0::s1::s2::s3::s4::.pointer (some ⟨b5, 0, none⟩)::s6::s7::.pointer (some ⟨b8, 0, none⟩)::.pointer (some ⟨b9, 0, none⟩)::s10::s11::s12::s13::s14::s15::s16::s17::s18::s19::s20::s21::s22::s23::s24::s25::s26::s27::s28::s29::s30::s31::s32::s33::s34::s35::s36::s37::s38::s39::s40::s41::s42::s43::s44::s45::s46::s47::s48::s49::s50::s51::s52::s53::s54::s55::s56::s57::s58::s59::s60::s61::s62::s63::s64::s65::s66::s67::s68::s69::s70::s71::s72::s73::s74::s75::s76::s77::s78::s79::s80::s81::s82::s83::s84::.slice y.C nc y.c::.int .i64 (nc : Int)::.int .i64 0::s88::s89::s90::s91::s92::s93::s94::s95::s96::s97::s98::s99::s100::s101::s102::s103::s104::s105::s106::s107::s108::s109::s110::s111::s112::s113::s114::s115::s116::s117::s118::s119::s120::s121::s122::s123::s124::s125::s126::s127::s128::s129::s130::s131::s132::s133::s134::s135::s136::s137::s138::s139::s140::s141::s142::s143::s144::s145::s146::s147::s148::s149::s150::s151::s152::s153::s154::s155::s156::s157::s158::s159::s160::s161::s162::s163::s164::s165::s166::s167::s168::s169::s170::s171::s172::s173::s174::s175::s176::s177::s178::s179::s180::s181::s182::s183::s184::s185::s186::s187::s188::s189::s190::s191::s192::s193::s194::s195::s196::s197::s198::s199::s200::s201::s202::[]), defers := [] } wr := by
 have HQ := Lib.hid hQ
 clear hQ
 conv at hc => rhs; whnf
 subst hc
 go_loopw [87] (fun i wr => ∃ j : Nat, j ≤ nc ∧ i = .int .i64 (j : Int) ∧ Hid (Mi W wr s t r y z z1 b5 b8 b9)) (fun i _ => nc - (intOf i).toNat)
 case atStart => exact ⟨0, Nat.zero_le _, rfl, HM⟩
 case round =>
  clear HM
  obtain ⟨j, hj, rfl, HM⟩ := hrel
  by_cases hjt : j < nc
  ·have hjl : j < s.com.length := by have := HNC.out; omega
   have hjt2 : j < t.com.length := Nat.lt_of_lt_of_le hjl HK.out.comLen
   obtain ⟨db, dof, hD, hrow⟩ := HM.out.lo.see.com j (by rw [zip_len2 _ HM.out.lo.see.cs]; exact hjl)
   rw [List.getElem_zipWith] at hrow
   obtain ⟨eb, eo, hE, hrow2⟩ := HM.out.see.com j (by rw [zip_len2 _ HM.out.see.cs]; exact hjt2)
   rw [List.getElem_zipWith] at hrow2
   obtain ⟨hct, hco⟩ := HK.out.com j hjl hjt2
   obtain ⟨c, hc⟩ : ∃ c, s.com[j] = c := ⟨_, rfl⟩
   obtain ⟨c', hc'⟩ : ∃ c, t.com[j] = c := ⟨_, rfl⟩
   obtain ⟨ly, hly⟩ : ∃ x, y.cs[j]'(by rw [HM.out.lo.see.cs]; exact hjl) = x := ⟨_, rfl⟩
   obtain ⟨lz, hlz⟩ : ∃ x, z.cs[j]'(by rw [HM.out.see.cs]; exact hjt2) = x := ⟨_, rfl⟩
   rw [hc, hly] at hrow
   rw [hc', hlz] at hrow2
   rw [hc, hc'] at hct hco
   clear hc hc' hly hlz hjl
   have HE := Lib.hid hE
   have x0 : wr.cell? ⟨db, dof + j * 6, none⟩ = some (.int .i64 c.tid.node) := hrow 0 _ rfl
   have x1 : wr.cell? ⟨db, dof + j * 6 + 1, none⟩ = some (.int .i64 c.tid.epoch) := hrow 1 _ rfl
   have x2 : wr.cell? ⟨db, dof + j * 6 + 2, none⟩ = some (.int .i64 c.tid.seq) := hrow 2 _ rfl
   have x3 : wr.cell? ⟨db, dof + j * 6 + 3, none⟩ = some (.slice ly.A c.items.length ly.c) := hrow 3 _ rfl
   have x4 : wr.cell? ⟨db, dof + j * 6 + 4, none⟩ = some (.slice ly.B c.nodes.length ly.d) := hrow 4 _ rfl
   have x5 : wr.cell? ⟨db, dof + j * 6 + 5, none⟩ = some (.bool c.over) := hrow 5 _ rfl
   have y0 : wr.cell? ⟨eb, eo + j * 6, none⟩ = some (.int .i64 c'.tid.node) := hrow2 0 _ rfl
   have y1 : wr.cell? ⟨eb, eo + j * 6 + 1, none⟩ = some (.int .i64 c'.tid.epoch) := hrow2 1 _ rfl
   have y2 : wr.cell? ⟨eb, eo + j * 6 + 2, none⟩ = some (.int .i64 c'.tid.seq) := hrow2 2 _ rfl
   have y5 : wr.cell? ⟨eb, eo + j * 6 + 5, none⟩ = some (.bool c'.over) := hrow2 5 _ rfl
   rw [hct] at y0 y1 y2
   obtain ⟨o1, ho1⟩ : ∃ b, c.over = b := ⟨_, rfl⟩
   obtain ⟨o2, ho2⟩ : ∃ b, c'.over = b := ⟨_, rfl⟩
   rw [ho1] at x5 hco
   rw [ho2] at y5 hco
   have HOV := Lib.hid hco
   clear ho1 ho2 hct hco
   obtain ⟨w6, hw6⟩ : ∃ v, v = wr.alloc (.cells #[.int .i64 c.tid.node, .int .i64 c.tid.epoch, .int .i64 c.tid.seq, .slice ly.A c.items.length ly.c, .slice ly.B c.nodes.length ly.d, .bool o1] 47) := ⟨_, rfl⟩
   have hb6 : Below wr.heap.size wr w6 := by rw [hw6]; exact below_alloc _ _
   have HM6 := Lib.hid (HM.out.later hb6)
   have HC6 : Hid (Cells w6 wr.heap.size 47 [.int .i64 c.tid.node, .int .i64 c.tid.epoch, .int .i64 c.tid.seq, .slice ly.A c.items.length ly.c, .slice ly.B c.nodes.length ly.d, .bool o1]) := Lib.hid (by rw [hw6]; exact cells_new _ _ _ _ rfl)
   have HY : Hid (w6.cell? ⟨eb, eo + j * 6, none⟩ = some (.int .i64 c.tid.node) ∧ w6.cell? ⟨eb, eo + j * 6 + 1, none⟩ = some (.int .i64 c.tid.epoch) ∧ w6.cell? ⟨eb, eo + j * 6 + 2, none⟩ = some (.int .i64 c.tid.seq) ∧ w6.cell? ⟨eb, eo + j * 6 + 5, none⟩ = some (.bool o2)) := Lib.hid ⟨lowc hb6 y0, lowc hb6 y1, lowc hb6 y2, lowc hb6 y5⟩
   have HTL := Lib.hid hjt2
   clear hrow hrow2 y0 y1 y2 y5 hb6 hjt2 hE
   simp only [hD]
   clear hD
   go_upto_region 25 with (fail)
   rw [← hw6]
   clear hw6 x0 x1 x2 x3 x4 x5
   obtain ⟨b15, hb15⟩ : ∃ b, wr.heap.size = b := ⟨_, rfl⟩
   rw [hb15] at HC6 ⊢
   have c0 := HC6.out.cell (j := 0) rfl
   have c1 := HC6.out.cell (j := 1) rfl
   have c2 := HC6.out.cell (j := 2) rfl
   have c5 := HC6.out.cell (j := 5) rfl
   have y0 := HY.out.1
   have y1 := HY.out.2.1
   have y2 := HY.out.2.2.1
   have y5 := HY.out.2.2.2
   have r7 := HM6.out.box.cell (j := 7) rfl
   rw [HE.out] at r7
   have htl := HTL.out
   have hge : ¬ (j : Int) ≥ (t.com.length : Int) := by omega
   have hne := tid_neq c.tid.node c.tid.epoch c.tid.seq c.tid.node c.tid.epoch c.tid.seq
   simp only [decide_true, Bool.and_self, Bool.not_true] at hne
   clear HC6 HY hb15 HE HTL HM
   go_cut [120] from 92 to 120 (fun v wx => v = .bool false ∧ Below w6.heap.size w6 wx)
   case first =>
    cases o1 with
    | false =>
     go_quiet (fail)
     go_wp2_with fail
     go_meet
     exact ⟨rfl, below_drewN _ _⟩
    | true =>
     obtain rfl := HOV.out rfl
     go_quiet (fail)
     go_wp2_with fail
     go_meet
     exact ⟨rfl, below_drewN _ _⟩
   case rest =>
    obtain ⟨rfl, hbq⟩ := hcut
    have HM8 := Lib.hid (HM6.out.later hbq)
    clear c0 c1 c2 c5 y0 y1 y2 y5 r7 hge hne htl HM6 hbq
    go_wp2_with fail
    go_roundw
    case rel => exact ⟨j + 1, by omega, by go_num, HM8⟩
    case measure => simp [intOf]; omega
  ·go_wp2_with fail
   exact HQ.out _ _ _ _ _ _ _ _ _ _ _ _ _ _ _ _ _ _ _ _ _ _ _ _ _ _ _ _ _ _ _ _ _ _ _ _ _ _ wr HM
set_option maxHeartbeats 4000000 in
/-- The loop over what is prepared. -/
theorem loop4 {W wr : World} {s t : St} {r : Rc} {y z : Sy} {z1 : Lay} {b5 b8 b9 k nq : Nat} (HM : Hid (Mi W wr s t r y z z1 b5 b8 b9)) (HNQ : Hid (s.prep.length = nq)) (hnqb : nq ≤ 1000) (HFZ : Hid (Sz (k + 1) t)) (HK : Hid (Kept s t r)) (hk : k ≤ 80)
  {c : Code} (hc : c = sub [1, 1, 1, 1, 1, 0, 1, 0, 0, 1, 1, 0, 0, 1, 1, 1, 1, 1, 1, 0, 1, 0] ((Try.f3.body).getD .skip)) {s0 s1 s2 s3 s4 s6 s7 s10 s11 s12 s13 s14 s15 s16 s17 s18 s19 s20 s21 s22 s23 s24 s25 s26 s27 s28 s29 s30 s31 s32 s33 s34 s35 s36 s37 s38 s39 s40 s41 s42 s43 s44 s45 s46 s47 s48 s49 s50 s51 s52 s53 s54 s55 s56 s57 s58 s59 s60 s61 s62 s63 s64 s65 s66 s67 s68 s69 s70 s71 s72 s73 s74 s75 s76 s77 s78 s79 s80 s81 s82 s83 s84 s85 s86 s87 s88 s89 s90 s91 s92 s93 s94 s95 s96 s97 s98 s99 s100 s101 s102 s103 s104 s105 s106 s107 s108 s109 s110 s111 s112 s113 s114 s115 s116 s117 s118 s119 s120 s121 s122 s126 s127 s128 s129 s130 s131 s132 s133 s134 s135 s136 s137 s138 s139 s140 s141 s142 s143 s144 s145 s146 s147 s148 s149 s150 s151 s152 s153 s154 s155 s156 s157 s158 s159 s160 s161 s162 s163 s164 s165 s166 s167 s168 s169 s170 s171 s172 s173 s174 s175 s176 s177 s178 s179 s180 s181 s182 s183 s184 s185 s186 s187 s188 s189 s190 s191 s192 s193 s194 s195 s196 s197 s198 s199 s200 s201 s202 : Value} {Q : Exit → Act → World → Prop}
  (hQ : ∀ (u4 u17 u125 u126 u127 u128 u129 u130 u131 u132 u133 u134 u135 u136 u137 u138 u139 u140 u141 : Value) (w' : World), Hid (Mi W w' s t r y z z1 b5 b8 b9) → Q (.exit 6) { tmps := List.toArray (s0::s1::s2::s3::u4::.pointer (some ⟨b5, 0, none⟩)::s6::s7::.pointer (some ⟨b8, 0, none⟩)::.pointer (some ⟨b9, 0, none⟩)::s10::s11::s12::s13::s14::s15::s16::u17::s18::s19::s20::s21::s22::s23::s24::s25::s26::s27::s28::s29::s30::s31::s32::s33::s34::s35::s36::s37::s38::s39::s40::s41::s42::s43::s44::s45::s46::s47::s48::s49::s50::s51::s52::s53::s54::s55::s56::s57::s58::s59::s60::s61::s62::s63::s64::s65::s66::s67::s68::s69::s70::s71::s72::s73::s74::s75::s76::s77::s78::s79::s80::s81::s82::s83::s84::s85::s86::s87::s88::s89::s90::s91::s92::s93::s94::s95::s96::s97::s98::s99::s100::s101::s102::s103::s104::s105::s106::s107::s108::s109::s110::s111::s112::s113::s114::s115::s116::s117::s118::s119::s120::s121::s122::.slice y.Q nq y.q::.int .i64 (nq : Int)::u125::u126::u127::u128::u129::u130::u131::u132::u133::u134::u135::u136::u137::u138::u139::u140::u141::s142::s143::s144::s145::s146::s147::s148::s149::s150::s151::s152::s153::s154::s155::s156::s157::s158::s159::s160::s161::s162::s163::s164::s165::s166::s167::s168::s169::s170::s171::s172::s173::s174::s175::s176::s177::s178::s179::s180::s181::s182::s183::s184::s185::s186::s187::s188::s189::s190::s191::s192::s193::s194::s195::s196::s197::s198::s199::s200::s201::s202::[]), defers := [] } w') :
  Code.wp Try.prog c Q { tmps := List.toArray (s0::s1::s2::s3::s4::.pointer (some ⟨b5, 0, none⟩)::s6::s7::.pointer (some ⟨b8, 0, none⟩)::.pointer (some ⟨b9, 0, none⟩)::s10::s11::s12::s13::s14::s15::s16::s17::s18::s19::s20::s21::s22::s23::s24::s25::s26::s27::s28::s29::s30::s31::s32::s33::s34::s35::s36::s37::s38::s39::s40::s41::s42::s43::s44::s45::s46::s47::s48::s49::s50::s51::s52::s53::s54::s55::s56::s57::s58::s59::s60::s61::s62::s63::s64::s65::s66::s67::s68::s69::s70::s71::s72::s73::s74::s75::s76::s77::s78::s79::s80::s81::s82::s83::s84::s85::s86::s87::s88::s89::s90::s91::s92::s93::s94::s95::s96::s97::s98::s99::s100::s101::s102::s103::s104::s105::s106::s107::s108::s109::s110::s111::s112::s113::s114::s115::s116::s117::s118::s119::s120::s121::s122::.slice y.Q nq y.q::.int .i64 (nq : Int)::.int .i64 0::s126::s127::s128::s129::s130::s131::s132::s133::s134::s135::s136::s137::s138::s139::s140::s141::s142::s143::s144::s145::s146::s147::s148::s149::s150::s151::s152::s153::s154::s155::s156::s157::s158::s159::s160::s161::s162::s163::s164::s165::s166::s167::s168::s169::s170::s171::s172::s173::s174::s175::s176::s177::s178::s179::s180::s181::s182::s183::s184::s185::s186::s187::s188::s189::s190::s191::s192::s193::s194::s195::s196::s197::s198::s199::s200::s201::s202::[]), defers := [] } wr := by
 have HQ := Lib.hid hQ
 clear hQ
 conv at hc => rhs; whnf
 subst hc
 go_loopw [125] (fun i wr => ∃ j : Nat, j ≤ nq ∧ i = .int .i64 (j : Int) ∧ Hid (Mi W wr s t r y z z1 b5 b8 b9)) (fun i _ => nq - (intOf i).toNat)
 case atStart => exact ⟨0, Nat.zero_le _, rfl, HM⟩
 case round =>
  clear HM
  obtain ⟨j, hj, rfl, HM⟩ := hrel
  by_cases hjt : j < nq
  ·have hjl : j < s.prep.length := by have := HNQ.out; omega
   obtain ⟨db, dof, hD, hrow⟩ := HM.out.lo.see.prep j (by rw [List.length_zipWith, HM.out.lo.see.ps]; omega)
   rw [List.getElem_zipWith] at hrow
   have hpr := HK.out.prep s.prep[j] (List.getElem_mem hjl)
   obtain ⟨p, hp⟩ : ∃ c, s.prep[j] = c := ⟨_, rfl⟩
   obtain ⟨ly, hly⟩ : ∃ x, y.ps[j]'(by rw [HM.out.lo.see.ps]; exact hjl) = x := ⟨_, rfl⟩
   rw [hp, hly] at hrow
   rw [hp] at hpr
   clear hp hly hjl
   have x0 : wr.cell? ⟨db, dof + j * 5, none⟩ = some (.int .i64 p.tid.node) := hrow 0 _ rfl
   have x1 : wr.cell? ⟨db, dof + j * 5 + 1, none⟩ = some (.int .i64 p.tid.epoch) := hrow 1 _ rfl
   have x2 : wr.cell? ⟨db, dof + j * 5 + 2, none⟩ = some (.int .i64 p.tid.seq) := hrow 2 _ rfl
   have x3 : wr.cell? ⟨db, dof + j * 5 + 3, none⟩ = some (.slice ly.A p.items.length ly.c) := hrow 3 _ rfl
   have x4 : wr.cell? ⟨db, dof + j * 5 + 4, none⟩ = some (.slice ly.B p.nodes.length ly.d) := hrow 4 _ rfl
   obtain ⟨w6, hw6⟩ : ∃ v, v = wr.alloc (.cells #[.int .i64 p.tid.node, .int .i64 p.tid.epoch, .int .i64 p.tid.seq, .slice ly.A p.items.length ly.c, .slice ly.B p.nodes.length ly.d] 49) := ⟨_, rfl⟩
   have hb6 : Below wr.heap.size wr w6 := by rw [hw6]; exact below_alloc _ _
   have HM6 := Lib.hid (HM.out.later hb6)
   have HC6 : Hid (Cells w6 wr.heap.size 49 (p.vals ly)) := Lib.hid (by rw [hw6]; exact cells_new _ _ _ _ rfl)
   have HFP := Lib.hid (Find_prep t z p.tid w6 HM6.out.see (by have := HFZ.out.prep; omega))
   have HFD := Lib.hid (fun w9 (h : Sees w9 t z) => Find_dec t z p.tid w9 h (by have := HFZ.out.dec; omega))
   obtain ⟨a1, ha1⟩ : ∃ a, at_prep t p.tid = a := ⟨_, rfl⟩
   obtain ⟨a2, ha2⟩ : ∃ a, at_dec t p.tid = a := ⟨_, rfl⟩
   rw [ha1] at HFP hpr
   rw [ha2] at HFD hpr
   have HPR := Lib.hid hpr
   unfold St.val Tid.val at HFP HFD
   have hq := HM.out.box
   unfold St.vals at hq
   have r0 := hq.cell (j := 0) rfl
   have r1 := hq.cell (j := 1) rfl
   have r2 := hq.cell (j := 2) rfl
   have r3 := hq.cell (j := 3) rfl
   have r4 := hq.cell (j := 4) rfl
   have r5 := hq.cell (j := 5) rfl
   have r6 := hq.cell (j := 6) rfl
   have r7 := hq.cell (j := 7) rfl
   have hlt9 := hq.lt
   clear hq hrow hb6 ha1 ha2 hpr
   simp only [hD]
   clear hD
   go_upto_region 31 with (fail)
   go_cut [140] from 129 to 140 (fun v wx => v = .bool false ∧ Hid (Mi W wx s t r y z z1 b5 b8 b9))
   case first =>
    go_wp2_with fail
    rw [← hw6]
    clear hw6 hlt9 r0 r1 r2 r3 r4 r5 r6 r7 x0 x1 x2 x3 x4
    refine HFP.out.mono ?_
    rintro e w7 ⟨rfl, hb7⟩
    have HM7 := Lib.hid (HM6.out.later hb7)
    by_cases hneg : a1 < 0
    ·have hge : ¬ a2 < 0 := fun h => HPR.out ⟨hneg, h⟩
     have hf := HFD.out w7 HM7.out.see
     have HF2 := Lib.hid hf
     have hq := HM7.out.box
     unfold St.vals at hq
     have r0 := hq.cell (j := 0) rfl
     have r1 := hq.cell (j := 1) rfl
     have r2 := hq.cell (j := 2) rfl
     have r3 := hq.cell (j := 3) rfl
     have r4 := hq.cell (j := 4) rfl
     have r5 := hq.cell (j := 5) rfl
     have r6 := hq.cell (j := 6) rfl
     have r7 := hq.cell (j := 7) rfl
     have hc7 := HC6.out.later hb7
     unfold Pr.vals at hc7
     have p0 := hc7.cell (j := 0) rfl
     have p1 := hc7.cell (j := 1) rfl
     have p2 := hc7.cell (j := 2) rfl
     clear hq hc7 hb7 hf
     go_wp2_with fail
     clear r0 r1 r2 r3 r4 r5 r6 r7 p0 p1 p2
     refine HF2.out.mono ?_
     rintro e w8 ⟨rfl, hb8⟩
     have HM8 := Lib.hid (HM7.out.later hb8)
     clear hb8 HF2
     go_wp2_with fail
     go_meet
     exact ⟨by rw [decide_eq_false (by omega)], HM8⟩
    ·clear hb7
     go_wp2_with fail
     go_meet
     exact ⟨rfl, HM7⟩
   case rest =>
    obtain ⟨rfl, HM8⟩ := hcut
    clear HM HM6 HC6 HFP HFD HPR hw6 hlt9 r0 r1 r2 r3 r4 r5 r6 r7 x0 x1 x2 x3 x4
    go_wp2_with fail
    go_roundw
    case rel => exact ⟨j + 1, by omega, by go_num, HM8⟩
    case measure => simp [intOf]; omega
  ·go_wp2_with fail
   exact HQ.out _ _ _ _ _ _ _ _ _ _ _ _ _ _ _ _ _ _ _ wr HM
set_option maxHeartbeats 4000000 in
/-- The loop over the places. -/
theorem loop5 {W wr : World} {s t : St} {r : Rc} {y z : Sy} {z1 : Lay} {b5 b8 b9 k np : Nat} (HM : Hid (Mi W wr s t r y z z1 b5 b8 b9)) (HNP : Hid (s.places.length = np)) (hnpb : np ≤ 1000) (HZ : Hid (Sz k s)) (HFZ : Hid (Sz (k + 1) t)) (HK : Hid (Kept s t r)) (hk : k ≤ 80)
  {c : Code} (hc : c = sub [1, 1, 1, 1, 1, 0, 1, 0, 0, 1, 1, 0, 0, 1, 1, 1, 1, 1, 1, 1, 0, 1, 0] ((Try.f3.body).getD .skip)) {s0 s1 s2 s3 s4 s6 s7 s10 s11 s12 s13 s14 s15 s16 s17 s18 s19 s20 s21 s22 s23 s24 s25 s26 s27 s28 s29 s30 s31 s32 s33 s34 s35 s36 s37 s38 s39 s40 s41 s42 s43 s44 s45 s46 s47 s48 s49 s50 s51 s52 s53 s54 s55 s56 s57 s58 s59 s60 s61 s62 s63 s64 s65 s66 s67 s68 s69 s70 s71 s72 s73 s74 s75 s76 s77 s78 s79 s80 s81 s82 s83 s84 s85 s86 s87 s88 s89 s90 s91 s92 s93 s94 s95 s96 s97 s98 s99 s100 s101 s102 s103 s104 s105 s106 s107 s108 s109 s110 s111 s112 s113 s114 s115 s116 s117 s118 s119 s120 s121 s122 s123 s124 s125 s126 s127 s128 s129 s130 s131 s132 s133 s134 s135 s136 s137 s138 s139 s140 s141 s142 s146 s147 s148 s149 s150 s151 s152 s153 s154 s155 s156 s157 s158 s159 s160 s161 s162 s163 s164 s165 s166 s167 s168 s169 s170 s171 s172 s173 s174 s175 s176 s177 s178 s179 s180 s181 s182 s183 s184 s185 s186 s187 s188 s189 s190 s191 s192 s193 s194 s195 s196 s197 s198 s199 s200 s201 s202 : Value} {Q : Exit → Act → World → Prop}
  (hQ : ∀ (u4 u18 u19 u20 u145 u146 u147 u148 u149 u150 u151 u152 u153 u154 u155 u156 u157 u158 u159 u160 u161 u162 u163 u164 u165 u166 u167 u168 u169 u170 u171 u172 u173 u174 u175 u176 u177 u178 u179 u180 u181 u182 u183 u184 u185 u186 u187 u188 u189 u190 u191 u192 u193 u194 u195 : Value) (w' : World), Hid (Mi W w' s t r y z z1 b5 b8 b9) → Q (.exit 8) { tmps := List.toArray (s0::s1::s2::s3::u4::.pointer (some ⟨b5, 0, none⟩)::s6::s7::.pointer (some ⟨b8, 0, none⟩)::.pointer (some ⟨b9, 0, none⟩)::s10::s11::s12::s13::s14::s15::s16::s17::u18::u19::u20::s21::s22::s23::s24::s25::s26::s27::s28::s29::s30::s31::s32::s33::s34::s35::s36::s37::s38::s39::s40::s41::s42::s43::s44::s45::s46::s47::s48::s49::s50::s51::s52::s53::s54::s55::s56::s57::s58::s59::s60::s61::s62::s63::s64::s65::s66::s67::s68::s69::s70::s71::s72::s73::s74::s75::s76::s77::s78::s79::s80::s81::s82::s83::s84::s85::s86::s87::s88::s89::s90::s91::s92::s93::s94::s95::s96::s97::s98::s99::s100::s101::s102::s103::s104::s105::s106::s107::s108::s109::s110::s111::s112::s113::s114::s115::s116::s117::s118::s119::s120::s121::s122::s123::s124::s125::s126::s127::s128::s129::s130::s131::s132::s133::s134::s135::s136::s137::s138::s139::s140::s141::s142::.slice y.P np y.p::.int .i64 (np : Int)::u145::u146::u147::u148::u149::u150::u151::u152::u153::u154::u155::u156::u157::u158::u159::u160::u161::u162::u163::u164::u165::u166::u167::u168::u169::u170::u171::u172::u173::u174::u175::u176::u177::u178::u179::u180::u181::u182::u183::u184::u185::u186::u187::u188::u189::u190::u191::u192::u193::u194::u195::s196::s197::s198::s199::s200::s201::s202::[]), defers := [] } w') :
  Code.wp Try.prog c Q { tmps := List.toArray (s0::s1::s2::s3::s4::.pointer (some ⟨b5, 0, none⟩)::s6::s7::.pointer (some ⟨b8, 0, none⟩)::.pointer (some ⟨b9, 0, none⟩)::s10::s11::s12::s13::s14::s15::s16::s17::s18::s19::s20::s21::s22::s23::s24::s25::s26::s27::s28::s29::s30::s31::s32::s33::s34::s35::s36::s37::s38::s39::s40::s41::s42::s43::s44::s45::s46::s47::s48::s49::s50::s51::s52::s53::s54::s55::s56::s57::s58::s59::s60::s61::s62::s63::s64::s65::s66::s67::s68::s69::s70::s71::s72::s73::s74::s75::s76::s77::s78::s79::s80::s81::s82::s83::s84::s85::s86::s87::s88::s89::s90::s91::s92::s93::s94::s95::s96::s97::s98::s99::s100::s101::s102::s103::s104::s105::s106::s107::s108::s109::s110::s111::s112::s113::s114::s115::s116::s117::s118::s119::s120::s121::s122::s123::s124::s125::s126::s127::s128::s129::s130::s131::s132::s133::s134::s135::s136::s137::s138::s139::s140::s141::s142::.slice y.P np y.p::.int .i64 (np : Int)::.int .i64 0::s146::s147::s148::s149::s150::s151::s152::s153::s154::s155::s156::s157::s158::s159::s160::s161::s162::s163::s164::s165::s166::s167::s168::s169::s170::s171::s172::s173::s174::s175::s176::s177::s178::s179::s180::s181::s182::s183::s184::s185::s186::s187::s188::s189::s190::s191::s192::s193::s194::s195::s196::s197::s198::s199::s200::s201::s202::[]), defers := [] } wr := by
 have HQ := Lib.hid hQ
 clear hQ
 conv at hc => rhs; whnf
 subst hc
 go_loopw [145] (fun i wr => ∃ j : Nat, j ≤ np ∧ i = .int .i64 (j : Int) ∧ Hid (Mi W wr s t r y z z1 b5 b8 b9)) (fun i _ => np - (intOf i).toNat)
 case atStart => exact ⟨0, Nat.zero_le _, rfl, HM⟩
 case round =>
  clear HM
  obtain ⟨j, hj, rfl, HM⟩ := hrel
  by_cases hjt : j < np
  ·have hjl : j < s.places.length := by have := HNP.out; omega
   have hjt2 : j < t.places.length := by rw [HK.out.len]; exact hjl
   obtain ⟨pb, po, hP, y0, y1, y2, y3, y4⟩ := place_cells HM.out.lo.see.places hjl
   obtain ⟨zb, zo, hZ, v0, v1, v2, v3, v4⟩ := place_cells HM.out.see.places hjt2
   have hhc : hasC s (j : Int) = true := (hasC_iff s _).2 ⟨by omega, by omega⟩
   have hpl := HK.out.pl (j : Int) hhc
   rw [plAt_nat s hjl, plAt_nat t hjt2] at hpl
   obtain ⟨P1, hP1⟩ : ∃ q, s.places[j] = q := ⟨_, rfl⟩
   obtain ⟨P2, hP2⟩ : ∃ q, t.places[j] = q := ⟨_, rfl⟩
   rw [hP1] at y0 y1 y2 y3 y4 hpl
   rw [hP2] at v0 v1 v2 v3 v4 hpl
   have HPL := Lib.hid hpl
   have HTL := Lib.hid hjt2
   clear hP1 hP2 hpl hhc hjl hjt2
   obtain ⟨w6, hw6⟩ : ∃ v, v = wr.alloc (.cells #[.int .i64 P1.status, .int .i64 P1.hop, .int .i64 P1.to, .int .i64 P1.version, .int .i64 P1.value] 51) := ⟨_, rfl⟩
   obtain ⟨w7, hw7⟩ : ∃ v, v = w6.alloc (.cells #[.int .i64 P2.status, .int .i64 P2.hop, .int .i64 P2.to, .int .i64 P2.version, .int .i64 P2.value] 51) := ⟨_, rfl⟩
   have hb6 : Below wr.heap.size wr w6 := by rw [hw6]; exact below_alloc _ _
   have hb67 : Below w6.heap.size w6 w7 := by rw [hw7]; exact below_alloc _ _
   have hs6 : w6.heap.size = wr.heap.size + 1 := by rw [hw6, World.size_alloc]
   have hc2 : Cells w7 w6.heap.size 51 P2.vals := by rw [hw7]; exact cells_new _ _ _ _ rfl
   rw [hs6] at hc2
   have HPA : Hid (Pa W w7 s t r y z z1 b5 b8 b9 wr.heap.size (wr.heap.size + 1) P1 P2) := Lib.hid ⟨HM.out.later (hb6.trans (hb67.mono hb6.size)), Cells.later (by rw [hw6]; exact cells_new _ _ _ _ rfl) hb67, hc2⟩
   have r4 := HM.out.box.cell (j := 4) rfl
   rw [hZ] at r4
   have hlt9 := HM.out.box.lt
   have hltz : zb < wr.heap.size := block_of_cell v0
   have htl := HTL.out
   clear hb6 hb67 hc2 hs6
   simp only [hP]
   clear hP hZ
   go_upto_region 38 with (fail)
   rw [← hw6]
   rw [← hw7]
   clear hw6 hw7 y0 y1 y2 y3 y4 v0 v1 v2 v3 v4 r4 hlt9 hltz htl
   obtain ⟨g1, hg1⟩ : ∃ b, wr.heap.size = b := ⟨_, rfl⟩
   rw [hg1] at HPA ⊢
   clear hg1 HM
   go_cut [181] from 155 to 181 (fun v wx => v = .bool false ∧ Hid (Pa W wx s t r y z z1 b5 b8 b9 g1 (g1 + 1) P1 P2))
   case first =>
    have u1 := HPA.out.c1.cell (j := 1) rfl
    have v1 := HPA.out.c2.cell (j := 1) rfl
    have r0 := HPA.out.mi.recd.cell (j := 0) rfl
    have hhop := HPL.out.1
    have hhp : ¬ P2.hop < P1.hop := by omega
    obtain ⟨kd, hkd⟩ : ∃ x, r.kind = x := ⟨_, rfl⟩
    rw [hkd] at HPL
    have r0b : w7.cell? ⟨b8, 0, none⟩ = some (.int .i64 kd) := by rw [← hkd]; exact r0
    clear r0 hkd hhop
    by_cases k9 : kd = 9
    ·subst k9
     go_wp2_with fail
     go_meet
     exact ⟨rfl, HPA⟩
    ·have hk9 : (kd != 9) = true := by simpa using k9
     have HOW := Lib.hid (Owns_any s y (j : Int) w7 HPA.out.mi.lo.see)
     have hq := HPA.out.mi.lo.box
     unfold St.vals at hq
     have q0 := hq.cell (j := 0) rfl
     have q1 := hq.cell (j := 1) rfl
     have q2 := hq.cell (j := 2) rfl
     have q3 := hq.cell (j := 3) rfl
     have q4 := hq.cell (j := 4) rfl
     have q5 := hq.cell (j := 5) rfl
     have q6 := hq.cell (j := 6) rfl
     have q7 := hq.cell (j := 7) rfl
     unfold St.val at HOW
     rw [HNP.out] at HOW q4
     clear hq
     go_wp2_with fail
     clear q0 q1 q2 q3 q4 q5 q6 q7 u1 v1 r0b
     refine HOW.out.mono ?_
     rintro e w8 ⟨rfl, hb8⟩
     have HPB := Lib.hid (HPA.out.later hb8)
     have hpl := fun (h : owns s (j : Int) = true) (h2 : owns t (j : Int) = true) => HPL.out.2.1 k9 h h2
     clear HOW hb8
     cases hos : owns s (j : Int) with
     | false =>
      clear hpl
      go_wp2_with fail
      go_meet
      exact ⟨rfl, HPB⟩
     | true =>
      have HOW := Lib.hid (Owns_any t z (j : Int) w8 HPB.out.mi.see)
      have hq := HPB.out.mi.box
      unfold St.vals at hq
      have q0 := hq.cell (j := 0) rfl
      have q1 := hq.cell (j := 1) rfl
      have q2 := hq.cell (j := 2) rfl
      have q3 := hq.cell (j := 3) rfl
      have q4 := hq.cell (j := 4) rfl
      have q5 := hq.cell (j := 5) rfl
      have q6 := hq.cell (j := 6) rfl
      have q7 := hq.cell (j := 7) rfl
      unfold St.val at HOW
      clear hq
      go_wp2_with fail
      clear q0 q1 q2 q3 q4 q5 q6 q7
      refine HOW.out.mono ?_
      rintro e w9 ⟨rfl, hb9⟩
      have HPC := Lib.hid (HPB.out.later hb9)
      clear HOW hb9
      cases hot : owns t (j : Int) with
      | false =>
       clear hpl
       go_wp2_with fail
       go_meet
       exact ⟨rfl, HPC⟩
      | true =>
       have hv := hpl hos hot
       have hvv : ¬ P2.version < P1.version := by omega
       have u3 := HPC.out.c1.cell (j := 3) rfl
       have v3 := HPC.out.c2.cell (j := 3) rfl
       clear hpl hv
       go_wp2_with fail
       go_meet
       exact ⟨by rw [decide_eq_false (by omega)], HPC⟩
   case rest =>
    obtain ⟨rfl, HPD⟩ := hcut
    clear HPA
    go_upto_region 40 with (fail)
    go_cut [194] from 182 to 194 (fun v wx => v = .bool false ∧ Hid (Mi W wx s t r y z z1 b5 b8 b9))
    case first =>
     have HLK := Lib.hid (Locked_any s y (j : Int) _ HPD.out.mi.lo.see ⟨by have := HZ.out.prep; omega, fun q hq => Nat.le_trans (HZ.out.pin q hq).1 (by decide)⟩)
     have hq := HPD.out.mi.lo.box
     unfold St.vals at hq
     have q0 := hq.cell (j := 0) rfl
     have q1 := hq.cell (j := 1) rfl
     have q2 := hq.cell (j := 2) rfl
     have q3 := hq.cell (j := 3) rfl
     have q4 := hq.cell (j := 4) rfl
     have q5 := hq.cell (j := 5) rfl
     have q6 := hq.cell (j := 6) rfl
     have q7 := hq.cell (j := 7) rfl
     unfold St.val at HLK
     rw [HNP.out] at HLK q4
     clear hq
     go_wp2_with fail
     clear q0 q1 q2 q3 q4 q5 q6 q7
     refine HLK.out.mono ?_
     rintro e w8 ⟨rfl, hb8⟩
     have HPE := Lib.hid (HPD.out.later hb8)
     clear HLK hb8
     cases hls : locked s (j : Int) with
     | false =>
      go_wp2_with fail
      go_meet
      exact ⟨rfl, Lib.hid HPE.out.mi⟩
     | true =>
      have HLK := Lib.hid (Locked_any t z (j : Int) w8 HPE.out.mi.see ⟨by have := HFZ.out.prep; omega, fun q hq => Nat.le_trans (HFZ.out.pin q hq).1 (by decide)⟩)
      have hq := HPE.out.mi.box
      unfold St.vals at hq
      have q0 := hq.cell (j := 0) rfl
      have q1 := hq.cell (j := 1) rfl
      have q2 := hq.cell (j := 2) rfl
      have q3 := hq.cell (j := 3) rfl
      have q4 := hq.cell (j := 4) rfl
      have q5 := hq.cell (j := 5) rfl
      have q6 := hq.cell (j := 6) rfl
      have q7 := hq.cell (j := 7) rfl
      unfold St.val at HLK
      clear hq
      go_wp2_with fail
      clear q0 q1 q2 q3 q4 q5 q6 q7
      refine HLK.out.mono ?_
      rintro e w9 ⟨rfl, hb9⟩
      have HPF := Lib.hid (HPE.out.later hb9)
      clear HLK hb9
      cases hlt2 : locked t (j : Int) with
      | false =>
       go_wp2_with fail
       go_meet
       exact ⟨rfl, Lib.hid HPF.out.mi⟩
      | true =>
       have hpq := HPL.out.2.2 hls hlt2
       have hc1 := HPF.out.c1
       have hc2 := HPF.out.c2
       rw [hpq] at hc2
       have hne := place_neq P1.status P1.hop P1.to P1.version P1.value
       have s0 := hc1.cell (j := 0) rfl
       have s1 := hc1.cell (j := 1) rfl
       have s2 := hc1.cell (j := 2) rfl
       have s3 := hc1.cell (j := 3) rfl
       have s4 := hc1.cell (j := 4) rfl
       have t0 := hc2.cell (j := 0) rfl
       have t1 := hc2.cell (j := 1) rfl
       have t2 := hc2.cell (j := 2) rfl
       have t3 := hc2.cell (j := 3) rfl
       have t4 := hc2.cell (j := 4) rfl
       clear hpq hc1 hc2
       go_wp2_with fail
       go_meet
       exact ⟨rfl, Lib.hid HPF.out.mi⟩
    case rest =>
     obtain ⟨rfl, HM⟩ := hcut
     go_wp2_with fail
     go_roundw
     case rel => exact ⟨j + 1, by omega, by go_num, HM⟩
     case measure => simp [intOf]; omega
  ·go_wp2_with fail
   exact HQ.out _ _ _ _ _ _ _ _ _ _ _ _ _ _ _ _ _ _ _ _ _ _ _ _ _ _ _ _ _ _ _ _ _ _ _ _ _ _ _ _ _ _ _ _ _ _ _ _ _ _ _ _ _ _ _ wr HM
set_option maxHeartbeats 4000000 in
theorem walk (b1 b2 b3 : Int) (A : Option Addr) (l : List Rc) (zs : List Lay) (cap : Nat) (W : World) (hr : Recs W A l zs) (hl : l.length ≤ maxLen) (hs : ∀ r ∈ l, r.items.length ≤ maxLen ∧ r.nodes.length ≤ maxLen) :
  Calls Try.prog 3 #[.agg #[.int .i64 b1, .int .i64 b2, .int .i64 b3], .slice A l.length cap] W fun e W' => e = .returned (.bool true) ∧ Below W.heap.size W W' := by
 obtain ⟨w1, hw1⟩ : ∃ v, v = W.alloc (.cells #[.int .i64 b1, .int .i64 b2, .int .i64 b3] 23) := ⟨_, rfl⟩
 have hb1 : Below W.heap.size W w1 := by rw [hw1]; exact below_alloc _ _
 have hc1 : Cells w1 W.heap.size 23 [.int .i64 b1, .int .i64 b2, .int .i64 b3] := by rw [hw1]; exact cells_new _ _ _ _ rfl
 have HR := Lib.hid hr
 have HB1 := Lib.hid hb1
 have HC1 := Lib.hid hc1
 have HG := Lib.hid (fun w (h : Below W.heap.size W w) => great_any A l zs cap 80 w (hr.later h) hl hs (by decide))
 have HGS := Lib.hid (fun (h : greatB l 80 = false) => great_small h)
 obtain ⟨G, hG⟩ : ∃ G, greatB l 80 = G := ⟨_, rfl⟩
 rw [hG] at HG HGS
 obtain ⟨n, hn⟩ : ∃ n, l.length = n := ⟨_, rfl⟩
 have HN := Lib.hid hn
 rw [hn] at HG HGS ⊢
 clear hr hl hs hb1 hc1 hG hn
 go_enter Try.func3, Try.ntmps3
 go_wp2_with fail
 rw [← hw1]
 clear hw1
 refine (awake_any w1).mono ?_
 rintro e w2 ⟨rfl, hb2⟩
 have HB2 := Lib.hid (HB1.out.trans (hb2.mono HB1.out.size))
 have HC2 := Lib.hid (HC1.out.later hb2)
 clear hb2 HB1 HC1
 go_wp2_with fail
 refine (HG.out w2 HB2.out).mono ?_
 rintro e w3 ⟨rfl, hb3⟩
 have HB3 := Lib.hid (HB2.out.trans (hb3.mono HB2.out.size))
 have hc3 := HC2.out.later hb3
 clear hb3 HB2 HC2 HG
 cases G with
 | true =>
  go_wp2_with fail
  go_returns
  exact ⟨rfl, HB3.out⟩
 | false =>
  have HSM := Lib.hid (HGS.out rfl)
  have q0 := hc3.cell (j := 0) rfl
  have q1 := hc3.cell (j := 1) rfl
  have q2 := hc3.cell (j := 2) rfl
  have HFI := Lib.hid (First_any b1 b2 b3 w3)
  have HIF := Lib.hid (fun (h : (firstL b1 b2 b3).2 = 0) => Inv.firstL h)
  have HZF := Lib.hid (Sz.first b1 b2 b3)
  obtain ⟨F, hF⟩ : ∃ F, firstL b1 b2 b3 = F := ⟨_, rfl⟩
  rw [hF] at HFI HIF HZF
  clear HGS hc3 hF
  go_wp2_with fail
  clear q0 q1 q2
  refine HFI.out.mono ?_
  rintro e w4 ⟨⟨y0, rfl, hst⟩, hb4⟩
  have HB4 := Lib.hid (HB3.out.trans (hb4.mono HB3.out.size))
  have HST := Lib.hid hst
  clear hb4 hst HFI HB3
  obtain ⟨s0, e0⟩ := F
  simp only at HIF HZF HST ⊢
  simp only [St.val]
  by_cases he : e0 = 0
  ·subst he
   have HI0 := Lib.hid (HIF.out rfl)
   obtain ⟨w5, hw5⟩ : ∃ v, v = w4.alloc (.cells #[.int .i64 s0.node, .int .i64 s0.nodes, .int .i64 s0.cells, .int .i64 s0.epoch, .slice y0.P s0.places.length y0.p, .slice y0.Q s0.prep.length y0.q, .slice y0.D s0.dec.length y0.d, .slice y0.C s0.com.length y0.c] 32) := ⟨_, rfl⟩
   have hb5 : Below w4.heap.size w4 w5 := by rw [hw5]; exact below_alloc _ _
   have HL5 : Hid (Lo W w5 s0 y0 w4.heap.size) := Lib.hid ⟨HB4.out.trans (hb5.mono HB4.out.size), by rw [hw5]; exact cells_new _ _ _ _ rfl, fun w9 h9 => HST.out w9 (((Only.of_below hb5).trans h9 fun k hk e => by subst e; exact absurd hk (Nat.lt_irrefl _))), HB4.out.size⟩
   have hnb : n ≤ 80 := HSM.out.1
   clear hb5 HST HB4 HIF
   go_upto_region 8 with (fail)
   rw [← hw5]
   clear hw5
   obtain ⟨b5, hb5⟩ : ∃ b, w4.heap.size = b := ⟨_, rfl⟩
   rw [hb5] at HL5 ⊢
   clear hb5
   go_cut [37, 38, 39] from 20 to 39 (fun a b c wx => a = .slice A n cap ∧ b = .int .i64 (n : Int) ∧ c = .int .i64 0 ∧ wx = w5)
   case first =>
    go_wp2_with fail
    go_meet
    exact ⟨rfl, rfl, rfl, rfl⟩
   case rest =>
    obtain ⟨rfl, rfl, rfl, rfl⟩ := hcut
    go_wp2_with fail
    go_loopw [39] (fun i wr => ∃ k : Nat, k ≤ n ∧ i = .int .i64 (k : Int) ∧ Hid (∃ s y, Inv s ∧ Sz k s ∧ Lo W wr s y b5)) (fun i _ => n - (intOf i).toNat)
    case atStart => exact ⟨0, Nat.zero_le _, rfl, Lib.hid ⟨s0, y0, HI0.out, HZF.out, HL5.out⟩⟩
    case round =>
     clear HL5 HI0 HZF
     obtain ⟨k, hk, rfl, HA⟩ := hrel
     by_cases hlt : k < n
     ·obtain ⟨s, y, hinv, hsz, hlo⟩ := HA.out
      have hlk : k < l.length := by have := HN.out; omega
      have hzk : k < zs.length := by have := HR.out.len; omega
      obtain ⟨ab, off, hAA, hr0⟩ := (HR.out.later hlo.low).row k (by rw [List.length_zipWith]; omega)
      rw [List.getElem_zipWith] at hr0
      have HTW := Lib.hid ((HR.out.later hlo.low).each k hlk hzk)
      have HSR := Lib.hid (HSM.out.2 l[k] (List.getElem_mem hlk))
      obtain ⟨r, hr⟩ : ∃ r, l[k] = r := ⟨_, rfl⟩
      obtain ⟨z1, hz1⟩ : ∃ z, zs[k] = z := ⟨_, rfl⟩
      rw [hr, hz1] at HTW hr0
      rw [hr] at HSR
      have HI := Lib.hid hinv
      have HZ := Lib.hid hsz
      have HLO := Lib.hid hlo
      clear hr hz1 hinv hsz hlo HA
      have x0 : wr.cell? ⟨ab, off + k * 15, none⟩ = some (.int .i64 r.kind) := hr0 0 _ rfl
      have x1 : wr.cell? ⟨ab, off + k * 15 + 1, none⟩ = some (.int .i64 r.tid.node) := hr0 1 _ rfl
      have x2 : wr.cell? ⟨ab, off + k * 15 + 2, none⟩ = some (.int .i64 r.tid.epoch) := hr0 2 _ rfl
      have x3 : wr.cell? ⟨ab, off + k * 15 + 3, none⟩ = some (.int .i64 r.tid.seq) := hr0 3 _ rfl
      have x4 : wr.cell? ⟨ab, off + k * 15 + 4, none⟩ = some (.slice z1.A r.items.length z1.c) := hr0 4 _ rfl
      have x5 : wr.cell? ⟨ab, off + k * 15 + 5, none⟩ = some (.slice z1.B r.nodes.length z1.d) := hr0 5 _ rfl
      have x6 : wr.cell? ⟨ab, off + k * 15 + 6, none⟩ = some (.int .i64 r.node) := hr0 6 _ rfl
      have x7 : wr.cell? ⟨ab, off + k * 15 + 7, none⟩ = some (.int .i64 r.count) := hr0 7 _ rfl
      have x8 : wr.cell? ⟨ab, off + k * 15 + 8, none⟩ = some (.int .i64 r.num) := hr0 8 _ rfl
      have x9 : wr.cell? ⟨ab, off + k * 15 + 9, none⟩ = some (.int .i64 r.cell) := hr0 9 _ rfl
      have x10 : wr.cell? ⟨ab, off + k * 15 + 10, none⟩ = some (.int .i64 r.status) := hr0 10 _ rfl
      have x11 : wr.cell? ⟨ab, off + k * 15 + 11, none⟩ = some (.int .i64 r.hop) := hr0 11 _ rfl
      have x12 : wr.cell? ⟨ab, off + k * 15 + 12, none⟩ = some (.int .i64 r.version) := hr0 12 _ rfl
      have x13 : wr.cell? ⟨ab, off + k * 15 + 13, none⟩ = some (.int .i64 r.value) := hr0 13 _ rfl
      have x14 : wr.cell? ⟨ab, off + k * 15 + 14, none⟩ = some (.bool r.yes) := hr0 14 _ rfl
      clear hr0 hlk hzk
      simp only [hAA]
      clear hAA
      obtain ⟨wy, hwy⟩ : ∃ v, v = wr.alloc (.cells #[.int .i64 r.kind, .int .i64 r.tid.node, .int .i64 r.tid.epoch, .int .i64 r.tid.seq, .slice z1.A r.items.length z1.c, .slice z1.B r.nodes.length z1.d, .int .i64 r.node, .int .i64 r.count, .int .i64 r.num, .int .i64 r.cell, .int .i64 r.status, .int .i64 r.hop, .int .i64 r.version, .int .i64 r.value, .bool r.yes] 41) := ⟨_, rfl⟩
      obtain ⟨wx, hwx⟩ : ∃ v, v = wy.alloc (.cells #[.int .i64 r.kind, .int .i64 r.tid.node, .int .i64 r.tid.epoch, .int .i64 r.tid.seq, .slice z1.A r.items.length z1.c, .slice z1.B r.nodes.length z1.d, .int .i64 r.node, .int .i64 r.count, .int .i64 r.num, .int .i64 r.cell, .int .i64 r.status, .int .i64 r.hop, .int .i64 r.version, .int .i64 r.value, .bool r.yes] 41) := ⟨_, rfl⟩
      have hby : Below wr.heap.size wr wy := by rw [hwy]; exact below_alloc _ _
      have hbyx : Below wy.heap.size wy wx := by rw [hwx]; exact below_alloc _ _
      have hbx : Below wr.heap.size wr wx := hby.trans (hbyx.mono hby.size)
      have hgx : Cells wx wy.heap.size 41 (r.vals z1) := by rw [hwx]; exact cells_new _ _ _ _ rfl
      have hgr : Cells wx wr.heap.size 41 (r.vals z1) := Cells.later (by rw [hwy]; exact cells_new _ _ _ _ rfl) hbyx
      have hsy : wy.heap.size = wr.heap.size + 1 := by rw [hwy, World.size_alloc]
      rw [hsy] at hgx
      have HAP := Lib.hid (Apply_any s y [r] [z1] (some ⟨wr.heap.size + 1, 0, none⟩) 1 k wx (HLO.out.later hbx).see HZ.out
       ⟨cells_sl (sz := 15) (by simpa using hgx) (fun v hv => by rw [List.mem_singleton.1 hv]; rfl), rfl, fun j h1 h2 => by
        have : j = 0 := by simp at h1; omega
        subst this
        exact HTW.out.later hbx⟩ (fun x hx => by rw [List.mem_singleton.1 hx]; exact ⟨Nat.le_trans HSR.out.1 (by decide), Nat.le_trans HSR.out.2 (by decide)⟩) (by simp only [List.length_singleton]; omega))
      have HBX := Lib.hid hbx
      have HGR := Lib.hid hgr
      have hq := HLO.out.box
      unfold St.vals at hq
      have q0 := hq.cell (j := 0) rfl
      have q1 := hq.cell (j := 1) rfl
      have q2 := hq.cell (j := 2) rfl
      have q3 := hq.cell (j := 3) rfl
      have q4 := hq.cell (j := 4) rfl
      have q5 := hq.cell (j := 5) rfl
      have q6 := hq.cell (j := 6) rfl
      have q7 := hq.cell (j := 7) rfl
      have hlt6 := hq.lt
      unfold St.val at HAP
      clear hq hby hbyx hgx hgr hbx
      go_wp2_with fail
      rw [← hwy]
      rw [← hwx]
      clear hwx hwy hsy hlt6 q0 q1 q2 q3 q4 q5 q6 q7 x0 x1 x2 x3 x4 x5 x6 x7 x8 x9 x10 x11 x12 x13 x14
      refine HAP.out.mono ?_
      rintro e w4 ⟨⟨z, rfl, hst4⟩, hb4⟩
      have hap := apply_one s r
      have hfi := fun (h : (fFollow s r).2 = 0) => HI.out.follow r h
      have hfz := HZ.out.follow r ⟨Nat.le_trans HSR.out.1 (by decide), Nat.le_trans HSR.out.2 (by decide)⟩
      have hfk := fun (h : (fFollow s r).2 = 0) => kept HI.out r h
      obtain ⟨t, ht⟩ : ∃ t, (fFollow s r).1 = t := ⟨_, rfl⟩
      obtain ⟨e4, he4⟩ : ∃ e, (fFollow s r).2 = e := ⟨_, rfl⟩
      rw [ht, he4] at hap
      rw [ht] at hfz
      rw [ht, he4] at hfi hfk
      clear ht he4
      have HFI := Lib.hid hfi
      have HFZ := Lib.hid hfz
      have HFK := Lib.hid hfk
      have HLO4 := Lib.hid (HLO.out.later (HBX.out.trans (hb4.mono HBX.out.size)))
      have HGR4 := Lib.hid (HGR.out.later hb4)
      have HXS : Hid (wr.heap.size < wx.heap.size ∧ wx.heap.size ≤ w4.heap.size ∧ b5 < wr.heap.size) := Lib.hid ⟨HGR.out.lt, hb4.size, HLO.out.box.lt⟩
      clear hfi hfz hfk hb4 HLO HBX HGR HTW HAP
      by_cases hez : e4 = 0
      ·subst hez
       rw [if_pos rfl] at hap
       rw [hap] at hst4 ⊢
       simp only at hst4 ⊢
       have HS4 := Lib.hid hst4
       obtain ⟨w5, hw5⟩ : ∃ v, v = w4.alloc (.cells #[.int .i64 t.node, .int .i64 t.nodes, .int .i64 t.cells, .int .i64 t.epoch, .slice z.P t.places.length z.p, .slice z.Q t.prep.length z.q, .slice z.D t.dec.length z.d, .slice z.C t.com.length z.c] 32) := ⟨_, rfl⟩
       have hb5 : Below w4.heap.size w4 w5 := by rw [hw5]; exact below_alloc _ _
       have HM : Hid (Mi W w5 s t r y z z1 b5 wr.heap.size w4.heap.size) := Lib.hid ⟨HLO4.out.later hb5, HGR4.out.later hb5, by rw [hw5]; exact cells_new _ _ _ _ rfl, fun w9 h9 => HS4.out w9 ((Only.of_below hb5).trans h9 fun j _ e => by have := HXS.out; omega), by have := HXS.out; omega⟩
       have HIT := Lib.hid (HFI.out rfl)
       have hr0 := HGR4.out.cell (j := 0) rfl
       have hlt8 : wr.heap.size < w4.heap.size := by have := HXS.out; omega
       obtain ⟨b8, hb8⟩ : ∃ b, wr.heap.size = b := ⟨_, rfl⟩
       rw [hb8] at HM hr0 hlt8 ⊢
       have HR0 := Lib.hid hr0
       have HLT8 := Lib.hid hlt8
       clear hap hst4 HS4 HXS HLO4 HGR4 hb5 hb8 HFI hr0 hlt8
       go_upto_region 13 with (fail)
       rw [← hw5]
       clear hw5
       obtain ⟨b9, hb9⟩ : ∃ b, w4.heap.size = b := ⟨_, rfl⟩
       rw [hb9] at HM ⊢
       clear hb9
       have hr0 := HM.out.recd.cell (j := 0) rfl
       go_cut [59] from 40 to 59 (fun v wx => v = .bool (decide (r.kind = 1) || decide (r.kind = 3)) ∧ wx = w5)
       case first =>
        obtain ⟨kd, hkd⟩ : ∃ x, r.kind = x := ⟨_, rfl⟩
        have hr0b : w5.cell? ⟨b8, 0, none⟩ = some (.int .i64 kd) := by rw [← hkd]; exact hr0
        have HKD := Lib.hid hkd
        clear hkd hr0
        by_cases k1 : kd = 1
        ·subst k1
         go_wp2_with fail
         go_meet
         exact ⟨by rw [HKD.out]; rfl, rfl⟩
        ·have hk1 : (kd == 1) = false := by simpa using k1
         by_cases k3 : kd = 3
         ·subst k3
          go_wp2_with fail
          go_meet
          exact ⟨by rw [HKD.out]; rfl, rfl⟩
         ·have hk3 : (kd == 3) = false := by simpa using k3
          go_wp2_with fail
          go_meet
          exact ⟨by rw [HKD.out, decide_eq_false k1, decide_eq_false k3]; rfl, rfl⟩
       case rest =>
        obtain ⟨rfl, rfl⟩ := hcut
        clear hr0
        cases hkk : decide (r.kind = 1) || decide (r.kind = 3) with
        | true =>
         clear hkk HFK
         go_upto_region 14 with (fail)
         apply wp_region_lit
         refine wpList_load_cells rfl 32 _ rfl b9 #[.int .i64 t.node, .int .i64 t.nodes, .int .i64 t.cells, .int .i64 t.epoch, .slice z.P t.places.length z.p, .slice z.Q t.prep.length z.q, .slice z.D t.dec.length z.d, .slice z.C t.com.length z.c] rfl rfl HM.out.box Try.underlying32 rfl (by kernel_rfl) ?_
         refine wpList_store_cells rfl 32 _ _ rfl b5 #[.int .i64 t.node, .int .i64 t.nodes, .int .i64 t.cells, .int .i64 t.epoch, .slice z.P t.places.length z.p, .slice z.Q t.prep.length z.q, .slice z.D t.dec.length z.d, .slice z.C t.com.length z.c] [.int .i64 t.node, .int .i64 t.nodes, .int .i64 t.cells, .int .i64 t.epoch, .slice z.P t.places.length z.p, .slice z.Q t.prep.length z.q, .slice z.D t.dec.length z.d, .slice z.C t.com.length z.c] rfl rfl rfl HM.out.lo.box rfl (by kernel_rfl) (by simp [Value.oneCell']) fun w6 hpt hov => ?_
         have HST6 : Hid (∃ s9 y9, Inv s9 ∧ Sz (k + 1) s9 ∧ Lo W w6 s9 y9 b5) := Lib.hid ⟨t, z, HIT.out, HFZ.out, HM.out.store hpt hov⟩
         clear hpt hov
         go_wp2_with fail
         go_roundw
         case rel => exact ⟨k + 1, by omega, by go_num, HST6⟩
         case measure => simp [intOf]; omega
        | false =>
         rw [Bool.or_eq_false_iff] at hkk
         have HK := Lib.hid (HFK.out rfl (of_decide_eq_false hkk.1) (of_decide_eq_false hkk.2))
         clear hkk HFK
         have hq := HM.out.lo.box
         unfold St.vals at hq
         have q6 := hq.cell (j := 6) rfl
         obtain ⟨nd, hnd⟩ : ∃ n, s.dec.length = n := ⟨_, rfl⟩
         have HND := Lib.hid hnd
         rw [hnd] at q6
         have hndb : nd ≤ 1000 := by have := HZ.out.dec; omega
         clear hq hnd
         go_wp2_with fail
         clear q6
         refine loop2 HM HND hndb HFZ HK (by omega) (by kernel_rfl) ?_
         intro u4 u12 u13 u64 u65 u66 u67 u68 u69 u70 u71 u72 u73 u74 u75 u76 u77 u78 u79 u80 u81 u82 u83 wr HM
         dsimp only [Exit.inBlock]
         rw [if_pos rfl]
         have hq := HM.out.lo.box
         unfold St.vals at hq
         have q7 := hq.cell (j := 7) rfl
         obtain ⟨nc, hnc⟩ : ∃ n, s.com.length = n := ⟨_, rfl⟩
         have HNC := Lib.hid hnc
         rw [hnc] at q7
         have hncb : nc ≤ 1000 := by have := HZ.out.com; omega
         clear hq hnc
         go_wp2_with fail
         clear q7
         refine loop3 HM HNC hncb HK (k := k) (by omega) (by kernel_rfl) ?_
         intro u4 u14 u15 u87 u88 u89 u90 u91 u92 u93 u94 u95 u96 u97 u98 u99 u100 u101 u102 u103 u104 u105 u106 u107 u108 u109 u110 u111 u112 u113 u114 u115 u116 u117 u118 u119 u120 u121 wr HM
         dsimp only [Exit.inBlock]
         rw [if_pos rfl]
         have hq := HM.out.lo.box
         unfold St.vals at hq
         have q5 := hq.cell (j := 5) rfl
         obtain ⟨nq, hnq⟩ : ∃ n, s.prep.length = n := ⟨_, rfl⟩
         have HNQ := Lib.hid hnq
         rw [hnq] at q5
         have hnqb : nq ≤ 1000 := by have := HZ.out.prep; omega
         clear hq hnq
         go_wp2_with fail
         clear q5
         refine loop4 HM HNQ hnqb HFZ HK (by omega) (by kernel_rfl) ?_
         intro u4 u17 u125 u126 u127 u128 u129 u130 u131 u132 u133 u134 u135 u136 u137 u138 u139 u140 u141 wr HM
         dsimp only [Exit.inBlock]
         rw [if_pos rfl]
         have hq := HM.out.lo.box
         unfold St.vals at hq
         have q4 := hq.cell (j := 4) rfl
         obtain ⟨np, hnp⟩ : ∃ n, s.places.length = n := ⟨_, rfl⟩
         have HNP := Lib.hid hnp
         rw [hnp] at q4
         have hnpb : np ≤ 1000 := by have := HZ.out.places; omega
         clear hq hnp
         go_wp2_with fail
         clear q4
         refine loop5 HM HNP hnpb HZ HFZ HK (by omega) (by kernel_rfl) ?_
         intro u4 u18 u19 u20 u145 u146 u147 u148 u149 u150 u151 u152 u153 u154 u155 u156 u157 u158 u159 u160 u161 u162 u163 u164 u165 u166 u167 u168 u169 u170 u171 u172 u173 u174 u175 u176 u177 u178 u179 u180 u181 u182 u183 u184 u185 u186 u187 u188 u189 u190 u191 u192 u193 u194 u195 wr HM
         dsimp only [Exit.inBlock]
         rw [if_pos rfl]
         have HM9 := HM
         clear HM
         have u3 := HM9.out.lo.box.cell (j := 3) rfl
         have v3 := HM9.out.box.cell (j := 3) rfl
         have hep : ¬ t.epoch < s.epoch := by have := HK.out.epoch; omega
         go_upto_region 45 with (fail)
         apply wp_region_lit
         refine wpList_load_cells rfl 32 _ rfl b9 #[.int .i64 t.node, .int .i64 t.nodes, .int .i64 t.cells, .int .i64 t.epoch, .slice z.P t.places.length z.p, .slice z.Q t.prep.length z.q, .slice z.D t.dec.length z.d, .slice z.C t.com.length z.c] rfl rfl HM9.out.box Try.underlying32 rfl (by kernel_rfl) ?_
         refine wpList_store_cells rfl 32 _ _ rfl b5 #[.int .i64 t.node, .int .i64 t.nodes, .int .i64 t.cells, .int .i64 t.epoch, .slice z.P t.places.length z.p, .slice z.Q t.prep.length z.q, .slice z.D t.dec.length z.d, .slice z.C t.com.length z.c] [.int .i64 t.node, .int .i64 t.nodes, .int .i64 t.cells, .int .i64 t.epoch, .slice z.P t.places.length z.p, .slice z.Q t.prep.length z.q, .slice z.D t.dec.length z.d, .slice z.C t.com.length z.c] rfl rfl rfl HM9.out.lo.box rfl (by kernel_rfl) (by simp [Value.oneCell']) fun w6 hpt hov => ?_
         have HST6 : Hid (∃ s9 y9, Inv s9 ∧ Sz (k + 1) s9 ∧ Lo W w6 s9 y9 b5) := Lib.hid ⟨t, z, HIT.out, HFZ.out, HM9.out.store hpt hov⟩
         clear hpt hov u3 v3 hep
         go_wp2_with fail
         go_roundw
         case rel => exact ⟨k + 1, by omega, by go_num, HST6⟩
         case measure => simp [intOf]; omega
      ·rw [if_neg hez] at hap
       rw [hap]
       have hnz : (e4 != 0) = true := by simpa using hez
       obtain ⟨w5, hw5⟩ : ∃ v, v = w4.alloc (.cells #[.int .i64 0, .int .i64 0, .int .i64 0, .int .i64 0, .slice z.P 0 z.p, .slice z.Q 0 z.q, .slice z.D 0 z.d, .slice z.C 0 z.c] 32) := ⟨_, rfl⟩
       have hb5 : Below w4.heap.size w4 w5 := by rw [hw5]; exact below_alloc _ _
       have HN2 : Hid (∃ s9 y9, Inv s9 ∧ Sz (k + 1) s9 ∧ Lo W w5 s9 y9 b5) := Lib.hid ⟨s, y, HI.out, HZ.out.mono (Nat.le_succ k), HLO4.out.later hb5⟩
       clear hap hst4 hb5 HFI HFZ HFK HLO4 HGR4 HXS
       simp only [stZ, List.length_nil]
       go_wp2_with fail
       rw [← hw5]
       go_roundw
       case rel => exact ⟨k + 1, by omega, by go_num, HN2⟩
       case measure => simp [intOf]; omega
     ·obtain ⟨s, y, hinv, hsz, hlo⟩ := HA.out
      have HLO := Lib.hid hlo.low
      clear hinv hsz hlo HA
      go_wp2_with fail
      go_returns
      exact ⟨rfl, HLO.out⟩
  ·have hnz : (e0 != 0) = true := by simpa using he
   go_wp2_with fail
   go_returns
   exact ⟨rfl, HB4.out.trans ((below_alloc _ _).mono HB4.out.size)⟩

theorem opened {H : Type} {enc : TypeId × Value → H} {W : World} {base : Nat} {gs : List (DataW H)} (v0 : Value) (d0 : DataW H) (p0 : List MemPlace) (v1 : Value) (d1 : DataW H) (p1 : List MemPlace)
  (o0 : Value.okWide Try.prog W .any base 23 v0) (t0 : DataW.Trod enc Try.prog W 0 (fun _ => true) true 23 v0 d0 p0)
  (o1 : Value.okWide Try.prog W .any base 24 v1) (t1 : DataW.Trod enc Try.prog W 0 (fun _ => true) true 24 v1 d1 p1)
  (_hsz : (DataW.weightsEach Try.prog ([23, 24] ++ []) ([d0, d1] ++ gs)).all (· ≤ reachBytes) = true) :
  Calls Try.prog 3 #[v0, v1] W fun e W' => e = .returned (.bool true) ∧ Below W.heap.size W W' := by
 obtain ⟨b1, b2, b3, rfl, _, _, _⟩ := open_begin o0 t0
 obtain ⟨A, l, zs, cap, rfl, hr, hl, hs, _⟩ := open_recs o1 t1
 exact walk b1 b2 b3 A l zs cap W hr hl fun r h => (hs r h).2

theorem contract (H : Type) (enc : TypeId × Value → H) (W : World) (base : Nat) (args : Array Value) (ds gs : List (DataW H)) (before : List MemPlace)
  (hval : ∀ (j : Nat) t v, Try.f3.params[j]? = some t → args[j]? = some v → Value.okWide Try.prog W .any base t v)
  (hW : DataW.Whole enc Try.prog Try.f3.params.toList Rows.ledgerStaysSpec.vars false W args.toList ds gs before)
  (hsz : (DataW.weightsEach Try.prog (Try.f3.params.toList ++ []) (ds ++ gs)).all (· ≤ reachBytes) = true) :
  Calls Try.prog 3 args W fun e W' => ∃ v, e = .returned v ∧ Rows.ledgerStaysSpec.post enc Try.prog Try.f3 false true false false W args v W' := by
 have hW0 := hW
 obtain ⟨p, q, hA0, hV, rfl, _, _⟩ := hW
 have hA : DataW.TrodAll enc Try.prog W 0 (fun _ => true) true Try.f3.params.toList args.toList ds p := hA0
 rw [Try.params3] at hA hval hsz
 obtain ⟨v0, vs0, d0, ds0, p0, q0, hargs, rfl, rfl, h0, r0⟩ := trodAll_cons hA
 obtain ⟨v1, vs1, d1, ds1, p1, q1, rfl, rfl, rfl, h1, r1⟩ := trodAll_cons r0
 obtain ⟨rfl, rfl, rfl⟩ := trodAll_nil r1
 obtain rfl : args = #[v0, v1] := by cases args; simp_all
 refine (opened v0 d0 p0 v1 d1 p1 (hval 0 23 v0 rfl rfl) h0 (hval 1 24 v1 rfl rfl) h1 hsz).mono fun e W' ⟨he, hb⟩ => ⟨_, he, ?_⟩
 exact Base.law_post (tb := 4) Base.laidOut (by kernel_rfl) rfl Try.underlying4 rfl (fun l hl => by
  rw [Try.params3] at hl
  match l, hl with
  | [_, _], _ => rfl) (by rw [Try.params3]; rfl) hW0 hb

theorem laid_met (os : Os) : laidMet Try.prog Rows.ledgerStaysRow.laid ((Base.plainWorld os).forCall (fun _ _ => 0) ⟨#[], #[.agg #[.int .i64 0, .int .i64 0, .int .i64 0], .slice none 0 0], []⟩).memory := laidMet_nil _ _
theorem reads (os : Os) {H : Type} (enc : TypeId × Value → H) : ∃ places, DataW.whole enc Try.prog ((Base.plainWorld os).forCall (fun _ _ => 0) ⟨#[], #[.agg #[.int .i64 0, .int .i64 0, .int .i64 0], .slice none 0 0], []⟩).memory Try.f3.params.toList Rows.ledgerStaysSpec.vars false (#[.agg #[.int .i64 0, .int .i64 0, .int .i64 0], .slice none 0 0] : Array Value).toList 8 = some ([.agg [.lit (.int .i64 0), .lit (.int .i64 0), .lit (.int .i64 0)], .nil], [], places) :=
 ⟨[], by kernel_rfl⟩

set_option maxRecDepth 100000 in
theorem lifted (os : Os) (started : os.Started) (H : Type) (enc : TypeId × Value → H) (F : Stop.Interp) :
  ReturnsInHanded {} Try.checked os 3 .any ((OpenSpec.ofChange Rows.ledgerStaysSpec).preRow enc Try.prog Try.f3 Rows.ledgerStaysRow.domain false Rows.ledgerStaysRow.laid) (((OpenSpec.ofChange Rows.ledgerStaysSpec).at F).post enc Try.prog Try.f3 false true false false) := by
 obtain ⟨places, hx⟩ := reads os enc
 refine returnsInHanded_of_row (C := Try.checked) (s := OpenSpec.ofChange Rows.ledgerStaysSpec) Base.own started (by kernel_rfl) Try.func3
  (witness_row_at (enc := enc) (C := Try.checked) false (Base.plainWorld os) #[.agg #[.int .i64 0, .int .i64 0, .int .i64 0], .slice none 0 0] rfl (by kernel_rfl) (by kernel_rfl) (by kernel_rfl)
   (OpenSpec.preRow_of_cond 8 hx (by kernel_rfl) (fun k hk => by cases hk) (by kernel_rfl) (laid_met os))) ?_
 intro W base args ds gs before hval hW _ _ hsz _ _ _
 exact contract H enc W base args ds gs before hval hW hsz

theorem said : Rows.LedgerStaysSaid :=
 OpenClaim.holds_of_cond 3 Try.f3 rfl rfl rfl rfl rfl rfl rfl ⟨rfl, rfl, rfl, rfl, rfl⟩ rfl rfl rfl rfl rfl (by kernel_rfl) Try.func3 (by kernel_rfl)
  (of_decide_eq_true (by kernel_rfl)) (by unfold Func.isWrapper; rw [if_neg (of_decide_eq_false (by kernel_rfl))]; exact ⟨rfl, rfl⟩)
  (fun os started H enc _ F => by rw [OpenClaim.pre_eq_preRow]; exact lifted os started H enc F)
#print axioms said
end Go.Proofs.Ytakeldpmfbahnaa.LedgerStays
