/-
  Layer 10: a record that was read has just the bytes that were read. Conditions: none.
-/
import Derived.Test.YtfnkjdkckpdfhaaMsgBack
namespace Go.Proofs.Ytfnkjdkckpdfhaa.Msg
set_option maxRecDepth 100000
open Go.RowKit Go.Proofs.Ytfnkjdkckpdfhaa.Mem Go.Proofs.Ytfnkjdkckpdfhaa.Item Go.Proofs.Ytfnkjdkckpdfhaa.Wire

theorem stepF_num (f : Nat) (h : f < 6) (t : Rc × ByteArray × Bool) : stepF f t = (setN t.1 f (IntKind.i64.wrap (Wire.num t.2.1 8 : Nat)), rest t.2.1 8, brk t.2.1 t.2.2 8) := by
  unfold stepF
  rw [if_neg (by omega), if_neg (by omega), if_neg (by omega), if_neg (by omega)]
theorem fieldB_num (f : Nat) (h : f < 6) (r : Rc) : fieldB r f = nums [r.get f] := by
  unfold fieldB
  rw [if_neg (by omega), if_neg (by omega), if_neg (by omega), if_neg (by omega)]
theorem lt12 {f : Nat} (h : f < 10) : f < 6 ∨ f = 6 ∨ f = 7 ∨ f = 8 ∨ f = 9 := by omega
theorem step_keep (f g : Nat) (hf : f < 10) (hg : g < 10) (hne : f ≠ g) (t : Rc × ByteArray × Bool) : fieldB (stepF g t).1 f = fieldB t.1 f := by
  rcases lt12 hg with h8 | rfl | rfl | rfl | rfl
  · rw [stepF_num g h8]
    obtain ⟨s0, s1, s2, s3, s4⟩ := setN_rest t.1 g (IntKind.i64.wrap (Wire.num t.2.1 8 : Nat))
    rcases lt12 hf with k8 | rfl | rfl | rfl | rfl
    · rw [fieldB_num f k8, fieldB_num f k8]
      show nums [(setN t.1 g _).get f] = _
      rw [setN_get _ _ _ h8 _ k8, if_neg hne]
    · show tidB (setN t.1 g _).tid = tidB t.1.tid; rw [s1]
    · show itemsB (setN t.1 g _).items = itemsB t.1.items; rw [s2]
    · show nodesB (setN t.1 g _).nodes = nodesB t.1.nodes; rw [s3]
    · show [if (setN t.1 g _).yes then 1 else 0] = [if t.1.yes then 1 else 0]; rw [s4]
  all_goals
    rcases lt12 hf with k8 | rfl | rfl | rfl | rfl
    · rw [fieldB_num f k8, fieldB_num f k8]
      rfl
    all_goals first | exact absurd rfl hne | rfl
theorem fold_keep (f : Nat) (hf : f < 10) (l : List Int) : ∀ (t : Rc × ByteArray × Bool), (∀ y ∈ l, 0 ≤ y ∧ y < 10) → (f : Int) ∉ l → fieldB (foldF l t).1 f = fieldB t.1 f := by
  induction l with
  | nil => intro t _ _; rfl
  | cons a l ih =>
    intro t hl hn
    have ha := hl a (List.mem_cons_self ..)
    have e : foldF (a :: l) t = foldF l (stepF a.toNat t) := rfl
    rw [e, ih _ (fun y hy => hl y (List.mem_cons_of_mem _ hy)) (fun h => hn (List.mem_cons_of_mem _ h)), step_keep f a.toNat hf (by omega) (fun h => hn (by rw [List.mem_cons]; left; omega))]
theorem step_back (f : Nat) (hf : f < 10) (x : Rc) (s : ByteArray) (b : Bool) (h : (stepF f (x, s, b)).2.2 = false) : b = false ∧ s = bs (fieldB (stepF f (x, s, b)).1 f ++ (stepF f (x, s, b)).2.1.data.toList) := by
  have hb : b = false := by
    cases b
    · rfl
    · exfalso
      rcases lt12 hf with h8 | rfl | rfl | rfl | rfl
      · rw [stepF_num f h8] at h
        have := (brk_false h).2
        cases this
      · have h' : brkTid s true = false := h
        unfold brkTid at h'
        have := (brk_false (brk_false (brk_false h').2).2).2
        cases this
      · have h' : brkItems s true = false := h
        unfold brkItems at h'
        have h2 := (items_back _ _ _ h').2
        unfold fewB at h2
        split at h2
        · cases h2
        · have := (brk_false h2).2
          cases this
      · have h' : brkNodes s true = false := h
        unfold brkNodes at h'
        have h2 := (nodes_back _ _ _ h').2
        unfold fewB at h2
        split at h2
        · cases h2
        · have := (brk_false h2).2
          cases this
      · have h' : (if 1 < Wire.num s 1 then true else brk s true 1) = false := h
        split at h'
        · cases h'
        · have := (brk_false h').2
          cases this
  subst hb
  refine ⟨rfl, ?_⟩
  rcases lt12 hf with h8 | rfl | rfl | rfl | rfl
  · rw [stepF_num f h8] at h ⊢
    rw [fieldB_num f h8]
    show s = bs (nums [(setN x f _).get f] ++ _)
    rw [setN_get _ _ _ h8 _ h8, if_pos rfl]
    exact num_put8 (brk_false h).1
  · exact tid_back h
  · exact itemsB_back h
  · exact nodesB_back h
  · exact bool_back h
theorem fold_back (l : List Int) : ∀ (x : Rc) (s : ByteArray) (b : Bool), (∀ y ∈ l, 0 ≤ y ∧ y < 10) → l.Nodup → (foldF l (x, s, b)).2.2 = false → b = false ∧ s = bs (bodyB (foldF l (x, s, b)).1 l ++ (foldF l (x, s, b)).2.1.data.toList) := by
  induction l with
  | nil => intro x s b _ _ h; exact ⟨h, by simp [bodyB, foldF, bs_eq]⟩
  | cons a l ih =>
    intro x s b hl hn h
    have ha := hl a (List.mem_cons_self ..)
    have e : foldF (a :: l) (x, s, b) = foldF l (stepF a.toNat (x, s, b)) := rfl
    rw [e] at h ⊢
    obtain ⟨t, ht⟩ : ∃ t, stepF a.toNat (x, s, b) = t := ⟨_, rfl⟩
    obtain ⟨x1, s1, b1⟩ := t
    rw [ht] at h ⊢
    have hl' : ∀ y ∈ l, 0 ≤ y ∧ y < 10 := fun y hy => hl y (List.mem_cons_of_mem _ hy)
    obtain ⟨i1, i2⟩ := ih x1 s1 b1 hl' (List.nodup_cons.1 hn).2 h
    obtain ⟨j1, j2⟩ := step_back a.toNat (by omega) x s b (by rw [ht]; exact i1)
    rw [ht] at j2
    refine ⟨j1, ?_⟩
    have hk := fold_keep a.toNat (by omega) l (x1, s1, b1) hl' (by rw [show ((a.toNat : Nat) : Int) = a by omega]; exact (List.nodup_cons.1 hn).1)
    have q := put_next j2 i2
    have e2 : bodyB (foldF l (x1, s1, b1)).1 (a :: l) = fieldB x1 a.toNat ++ bodyB (foldF l (x1, s1, b1)).1 l := by
      unfold bodyB
      rw [List.flatMap_cons, hk]
    rw [e2]
    exact q
theorem fl_nodup (k : Int) : (fl k).Nodup := by
  by_cases h : 1 ≤ k ∧ k ≤ 15
  · rcases (show k = 1 ∨ k = 2 ∨ k = 3 ∨ k = 4 ∨ k = 5 ∨ k = 6 ∨ k = 7 ∨ k = 8 ∨ k = 9 ∨ k = 10 ∨ k = 11 ∨ k = 12 ∨ k = 13 ∨ k = 14 ∨ k = 15 by omega) with rfl | rfl | rfl | rfl | rfl | rfl | rfl | rfl | rfl | rfl | rfl | rfl | rfl | rfl | rfl <;> decide
  · rw [fl_none h]
    exact List.nodup_nil
theorem step_kind (f : Nat) (t : Rc × ByteArray × Bool) : (stepF f t).1.kind = t.1.kind := by
  unfold stepF
  split
  · rfl
  split
  · rfl
  split
  · rfl
  split
  · rfl
  · exact (setN_rest _ _ _).1
theorem fold_kind (l : List Int) : ∀ (t : Rc × ByteArray × Bool), (foldF l t).1.kind = t.1.kind := by
  induction l with
  | nil => intro t; rfl
  | cons a l ih =>
    intro t
    have e : foldF (a :: l) t = foldF l (stepF a.toNat t) := rfl
    rw [e, ih, step_kind]
theorem dec_back {s : ByteArray} {r : Rc} (h : dec s = some r) : right r = true ∧ bs (bytesR r) = s := by
  unfold dec at h
  split at h
  · rename_i hc
    obtain ⟨h1, h2⟩ := hc
    have hr := Option.some.inj h
    subst hr
    refine ⟨h2, ?_⟩
    have hb : (dec0 s).2.2 = false := by
      unfold endV at h1
      cases hx : (dec0 s).2.2
      · rfl
      · rw [hx] at h1; simp at h1
    have hn : (dec0 s).2.1 = nil := by
      unfold endV at h1
      rw [hb] at h1
      by_cases e : (dec0 s).2.1 = nil
      · exact e
      · simp [e] at h1
    have hk : (dec0 s).1.kind = (Wire.num s 1 : Nat) := fold_kind _ _
    obtain ⟨q1, q2⟩ := fold_back (fl (Wire.num s 1 : Nat)) (rcK (Wire.num s 1 : Nat)) (rest s 1) (brk s false 1) (fl_mem _) (fl_nodup _) hb
    have q3 := num_put (brk_false q1).1
    have q := put_next q3 q2
    have e1 : (foldF (fl (Wire.num s 1 : Nat)) (rcK (Wire.num s 1 : Nat), rest s 1, brk s false 1)) = dec0 s := rfl
    rw [e1, hn] at q
    have e2 : big (Wire.num s 1) 1 = [UInt8.ofNat (Wire.num s 1)] := by simp [big]
    unfold bytesR
    rw [hk, Int.toNat_natCast]
    have e3 : nil.data.toList = [] := rfl
    rw [e3, List.append_nil, e2] at q
    exact q.symm
  · cases h
end Go.Proofs.Ytfnkjdkckpdfhaa.Msg
