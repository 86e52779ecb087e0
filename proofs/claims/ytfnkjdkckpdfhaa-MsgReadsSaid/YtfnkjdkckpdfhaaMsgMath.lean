/-
  Layer 10: what is put is read. Conditions: none.
-/
import Derived.Test.YtfnkjdkckpdfhaaMsgEnc
import Derived.Test.YtfnkjdkckpdfhaaItemBack
namespace Go.Proofs.Ytfnkjdkckpdfhaa.Msg
set_option maxRecDepth 100000
open Go.RowKit Go.Proofs.Ytfnkjdkckpdfhaa.Mem Go.Proofs.Ytfnkjdkckpdfhaa.Item Go.Proofs.Ytfnkjdkckpdfhaa.Wire

theorem rightFrom_len (l : List It) : ∀ (last : Int), rightFrom last l = true → -1 ≤ last → last ≤ 15 → (l.length : Int) ≤ 15 - last := by
  induction l with
  | nil => intro last _ _ h; simp; omega
  | cons x l ih =>
    intro last h h0 h1
    simp only [rightFrom, rightIt, Bool.and_eq_true, decide_eq_true_eq] at h
    have := ih x.cell h.2 (by omega) (by omega)
    rw [List.length_cons]
    omega
theorem nodesFrom_len (l : List Int) : ∀ (last : Int), nodesFrom last l = true → 0 ≤ last → last ≤ 16 → (l.length : Int) ≤ 16 - last := by
  induction l with
  | nil => intro last _ _ h; simp; omega
  | cons x l ih =>
    intro last h h0 h1
    simp only [nodesFrom, Bool.and_eq_true, decide_eq_true_eq] at h
    have := ih x h.2 (by omega) (by omega)
    rw [List.length_cons]
    omega
/-- The field with a number becomes n. -/
def setN (x : Rc) (f : Nat) (n : Int) : Rc :=
  if f = 0 then { x with cell := n } else if f = 1 then { x with node := n } else if f = 2 then { x with num := n } else if f = 3 then { x with hop := n } else if f = 4 then { x with version := n } else { x with value := n }
/-- A field is read: the record so far, what is left, is the reader broken? -/
def stepF (f : Nat) (t : Rc × ByteArray × Bool) : Rc × ByteArray × Bool :=
  if f = 6 then ({ t.1 with tid := readTid t.2.1 t.2.2 }, restTid t.2.1, brkTid t.2.1 t.2.2)
  else if f = 7 then ({ t.1 with items := readItems t.2.1 t.2.2 }, restItems t.2.1, brkItems t.2.1 t.2.2)
  else if f = 8 then ({ t.1 with nodes := readNodes t.2.1 t.2.2 }, restNodes t.2.1, brkNodes t.2.1 t.2.2)
  else if f = 9 then ({ t.1 with yes := Wire.num t.2.1 1 == 1 }, if 1 < Wire.num t.2.1 1 then nil else rest t.2.1 1, if 1 < Wire.num t.2.1 1 then true else brk t.2.1 t.2.2 1)
  else (setN t.1 f (IntKind.i64.wrap (Wire.num t.2.1 8 : Nat)), rest t.2.1 8, brk t.2.1 t.2.2 8)
def foldF (l : List Int) (t : Rc × ByteArray × Bool) : Rc × ByteArray × Bool := l.foldl (fun t x => stepF x.toNat t) t
/-- The field f of r, put into x. -/
def copyF (r : Rc) (x : Rc) (f : Nat) : Rc :=
  if f = 6 then { x with tid := r.tid } else if f = 7 then { x with items := r.items } else if f = 8 then { x with nodes := r.nodes } else if f = 9 then { x with yes := r.yes } else setN x f (r.get f)
def copyL (r : Rc) (l : List Int) (x : Rc) : Rc := l.foldl (fun x f => copyF r x f.toNat) x
/-- Lists that can be told in bytes. -/
structure Rc.few (r : Rc) : Prop where
  items : r.items.length ≤ 16
  nodes : r.nodes.length ≤ 16
theorem get_ok {r : Rc} (h : r.ok) (f : Nat) : I64 (r.get f) := by
  unfold Rc.get Rc.numV
  rcases f with _ | _ | _ | _ | _ | _ | f
  · exact h.cell
  · exact h.node
  · exact h.num
  · exact h.hop
  · exact h.version
  · exact h.value
  · simp [I64]
theorem step_put {r : Rc} (h : r.ok) (hf : r.few) (f : Nat) (x : Rc) (m : List UInt8) : stepF f (x, bs (fieldB r f ++ m), false) = (copyF r x f, bs m, false) := by
  unfold stepF fieldB copyF
  by_cases e8 : f = 6
  · simp only [e8, if_true]
    obtain ⟨h1, h2, h3⟩ := read_tidB h.tid m
    rw [h1, h2, h3]
  by_cases e9 : f = 7
  · subst e9
    obtain ⟨h1, h2, h3⟩ := read_items m h.items hf.items
    simp only [show ¬ (7 : Nat) = 6 by decide, if_false, if_true]
    rw [h1, h2, h3]
  by_cases e10 : f = 8
  · subst e10
    obtain ⟨h1, h2, h3⟩ := read_nodes m h.nodes hf.nodes
    simp only [show ¬ (8 : Nat) = 6 by decide, show ¬ (8 : Nat) = 7 by decide, if_false, if_true]
    rw [h1, h2, h3]
  by_cases e11 : f = 9
  · subst e11
    simp only [show ¬ (9 : Nat) = 6 by decide, show ¬ (9 : Nat) = 7 by decide, show ¬ (9 : Nat) = 8 by decide, if_false, if_true]
    have hl : ([if r.yes then 1 else 0] : List UInt8).length = 1 := rfl
    have hn : Wire.num (bs ([if r.yes then 1 else 0] ++ m)) 1 = if r.yes then 1 else 0 := by
      rw [num_bs _ _ hl]
      cases r.yes <;> rfl
    rw [hn, rest_bs _ _ hl, brk_bs _ _ _ hl]
    cases r.yes <;> rfl
  · simp only [e8, e9, e10, e11, if_false]
    have e : nums [r.get f] ++ m = big (u64 (r.get f)) 8 ++ m := by unfold nums; simp
    rw [e, num_u64 (get_ok h f), rest_bs _ _ (big_length _ 8), brk_bs _ _ _ (big_length _ 8)]
theorem fold_put {r : Rc} (h : r.ok) (hf : r.few) (l : List Int) : ∀ (x : Rc) (m : List UInt8), foldF l (x, bs (bodyB r l ++ m), false) = (copyL r l x, bs m, false) := by
  induction l with
  | nil => intro x m; rfl
  | cons a l ih =>
    intro x m
    have e : bodyB r (a :: l) ++ m = fieldB r a.toNat ++ (bodyB r l ++ m) := by unfold bodyB; rw [List.flatMap_cons, List.append_assoc]
    rw [e]
    unfold foldF
    rw [List.foldl_cons, step_put h hf]
    exact ih _ m
theorem t0B_eq {t : Tid} (h : t0B t = true) : t = ⟨0, 0, 0⟩ := by
  unfold t0B at h
  simp only [Bool.and_eq_true, decide_eq_true_eq] at h
  obtain ⟨a, b, c⟩ := t
  simp only at h
  rw [h.1.1, h.1.2, h.2]
theorem others_zero {r : Rc} {l : List Int} (h : othersB r l = false) (f : Nat) (hf : f < 6) (hn : (f : Int) ∉ l) : r.get f = 0 := by
  unfold othersB left at h
  rw [List.any_eq_false] at h
  have h1 := h (((hasB r)[f]'(by rw [hasB_length]; omega)) && !decide ((f : Int) ∈ l.take l.length)) (by
    rw [List.mem_mapIdx]
    exact ⟨f, by rw [hasB_length]; omega, rfl⟩)
  rw [List.take_length, decide_eq_false hn] at h1
  rcases lt6 hf with rfl | rfl | rfl | rfl | rfl | rfl <;> simpa [hasB, Rc.get, Rc.numV] using h1
theorem others_at {r : Rc} {l : List Int} (h : othersB r l = false) (f : Nat) (hf : f < 10) (hn : (f : Int) ∉ l) : (hasB r)[f]'(by rw [hasB_length]; exact hf) = false := by
  unfold othersB left at h
  rw [List.any_eq_false] at h
  have h1 := h (((hasB r)[f]'(by rw [hasB_length]; omega)) && !decide ((f : Int) ∈ l.take l.length)) (by
    rw [List.mem_mapIdx]
    exact ⟨f, by rw [hasB_length]; omega, rfl⟩)
  rw [List.take_length, decide_eq_false hn] at h1
  simpa using h1
theorem others_rest {r : Rc} {l : List Int} (h : othersB r l = false) : (6 ∉ l → r.tid = ⟨0, 0, 0⟩) ∧ (7 ∉ l → r.items = []) ∧ (8 ∉ l → r.nodes = []) ∧ (9 ∉ l → r.yes = false) := by
  refine ⟨fun hn => ?_, fun hn => ?_, fun hn => ?_, fun hn => ?_⟩
  · have h2 := others_at h 6 (by decide) hn
    exact t0B_eq (by simpa [hasB] using h2)
  · have h2 := others_at h 7 (by decide) hn
    exact List.eq_nil_of_length_eq_zero (by simpa [hasB] using h2)
  · have h2 := others_at h 8 (by decide) hn
    exact List.eq_nil_of_length_eq_zero (by simpa [hasB] using h2)
  · have h2 := others_at h 9 (by decide) hn
    simpa [hasB] using h2
/-- A record of a kind and of nothing else. -/
def rcK (k : Int) : Rc := { rc0 with kind := k }
theorem rc_ext {a b : Rc} (h0 : a.kind = b.kind) (h1 : a.tid = b.tid) (h2 : a.items = b.items) (h3 : a.nodes = b.nodes) (h4 : a.yes = b.yes) (h : ∀ f, f < 6 → a.get f = b.get f) : a = b := by
  have g0 := h 0 (by decide)
  have g1 := h 1 (by decide)
  have g2 := h 2 (by decide)
  have g3 := h 3 (by decide)
  have g4 := h 4 (by decide)
  have g5 := h 5 (by decide)
  obtain ⟨k, t, its, nds, a0, a1, a2, a3, a4, a5, yes⟩ := a
  obtain ⟨k', t', its', nds', b0, b1, b2, b3, b4, b5, yes'⟩ := b
  simp only [Rc.get, Rc.numV, List.getElem?_cons_zero, List.getElem?_cons_succ, Option.getD_some] at g0 g1 g2 g3 g4 g5
  simp only at h0 h1 h2 h3 h4
  subst h0 h1 h2 h3 h4 g0 g1 g2 g3 g4 g5
  rfl
theorem setN_get (x : Rc) (f : Nat) (n : Int) (hf : f < 6) (g : Nat) (hg : g < 6) : (setN x f n).get g = if g = f then n else x.get g := by
  rcases lt6 hf with rfl | rfl | rfl | rfl | rfl | rfl <;> rcases lt6 hg with rfl | rfl | rfl | rfl | rfl | rfl <;> rfl
theorem setN_rest (x : Rc) (f : Nat) (n : Int) : (setN x f n).kind = x.kind ∧ (setN x f n).tid = x.tid ∧ (setN x f n).items = x.items ∧ (setN x f n).nodes = x.nodes ∧ (setN x f n).yes = x.yes := by
  unfold setN
  repeat' split
  all_goals exact ⟨rfl, rfl, rfl, rfl, rfl⟩
/-- What a copy has. -/
theorem copyL_get (r : Rc) (l : List Int) (hl : ∀ x ∈ l, 0 ≤ x ∧ x < 10) : ∀ (x : Rc), (copyL r l x).kind = x.kind ∧ (∀ g, g < 6 → (copyL r l x).get g = if (g : Int) ∈ l then r.get g else x.get g) ∧
    (copyL r l x).tid = (if 6 ∈ l then r.tid else x.tid) ∧ (copyL r l x).items = (if 7 ∈ l then r.items else x.items) ∧ (copyL r l x).nodes = (if 8 ∈ l then r.nodes else x.nodes) ∧ (copyL r l x).yes = (if 9 ∈ l then r.yes else x.yes) := by
  induction l with
  | nil => intro x; exact ⟨rfl, fun g _ => rfl, rfl, rfl, rfl, rfl⟩
  | cons a l ih =>
    intro x
    obtain ⟨i0, i1, i2, i3, i4, i5⟩ := ih (fun y hy => hl y (List.mem_cons_of_mem _ hy)) (copyF r x a.toNat)
    have ha := hl a (List.mem_cons_self ..)
    have e : copyL r (a :: l) x = copyL r l (copyF r x a.toNat) := rfl
    rw [e, i0, i2, i3, i4, i5]
    obtain ⟨f, rfl⟩ : ∃ f : Nat, a = (f : Int) := ⟨a.toNat, by omega⟩
    rw [Int.toNat_natCast] at *
    have hf : f < 10 := by omega
    have h12 : f < 6 ∨ f = 6 ∨ f = 7 ∨ f = 8 ∨ f = 9 := by omega
    rcases h12 with h8 | rfl | rfl | rfl | rfl
    · have ec : copyF r x f = setN x f (r.get f) := by
        unfold copyF
        rw [if_neg (by omega), if_neg (by omega), if_neg (by omega), if_neg (by omega)]
      obtain ⟨s0, s1, s2, s3, s4⟩ := setN_rest x f (r.get f)
      rw [ec] at i1 ⊢
      rw [s0, s1, s2, s3, s4]
      refine ⟨rfl, fun g hg => ?_, ?_, ?_, ?_, ?_⟩
      · rw [i1 g hg, setN_get x f _ h8 g hg]
        by_cases e1 : (g : Int) ∈ l
        · rw [if_pos e1, if_pos (List.mem_cons_of_mem _ e1)]
        · rw [if_neg e1]
          by_cases e2 : g = f
          · subst e2
            rw [if_pos rfl, if_pos (List.mem_cons_self ..)]
          · rw [if_neg e2, if_neg (by
              intro hm
              rcases List.mem_cons.1 hm with h | h
              · omega
              · exact e1 h)]
      · have : (6 : Int) ≠ (f : Int) := by omega
        simp [List.mem_cons, this]
      · have : (7 : Int) ≠ (f : Int) := by omega
        simp [List.mem_cons, this]
      · have : (8 : Int) ≠ (f : Int) := by omega
        simp [List.mem_cons, this]
      · have : (9 : Int) ≠ (f : Int) := by omega
        simp [List.mem_cons, this]
    · refine ⟨rfl, fun g hg => ?_, ?_, ?_, ?_, ?_⟩
      · rw [i1 g hg]
        have : (g : Int) ≠ ((6 : Nat) : Int) := by omega
        simp only [List.mem_cons, this, false_or]
        rfl
      all_goals simp [copyF]
    · refine ⟨rfl, fun g hg => ?_, ?_, ?_, ?_, ?_⟩
      · rw [i1 g hg]
        have : (g : Int) ≠ ((7 : Nat) : Int) := by omega
        simp only [List.mem_cons, this, false_or]
        rfl
      all_goals simp [copyF]
    · refine ⟨rfl, fun g hg => ?_, ?_, ?_, ?_, ?_⟩
      · rw [i1 g hg]
        have : (g : Int) ≠ ((8 : Nat) : Int) := by omega
        simp only [List.mem_cons, this, false_or]
        rfl
      all_goals simp [copyF]
    · refine ⟨rfl, fun g hg => ?_, ?_, ?_, ?_, ?_⟩
      · rw [i1 g hg]
        have : (g : Int) ≠ ((9 : Nat) : Int) := by omega
        simp only [List.mem_cons, this, false_or]
        rfl
      all_goals simp [copyF]
theorem right_copy {r : Rc} (h : right r = true) : copyL r (fl r.kind) (rcK r.kind) = r := by
  unfold right at h
  simp only [Bool.and_eq_true, Bool.not_eq_true'] at h
  have ho := h.1.2
  obtain ⟨c0, c1, c2, c3, c4, c5⟩ := copyL_get r (fl r.kind) (fl_mem r.kind) (rcK r.kind)
  obtain ⟨o2, o3, o4, o5⟩ := others_rest ho
  refine rc_ext c0 ?_ ?_ ?_ ?_ ?_
  · rw [c2]; split
    · rfl
    · rename_i hn; rw [o2 hn]; rfl
  · rw [c3]; split
    · rfl
    · rename_i hn; rw [o3 hn]; rfl
  · rw [c4]; split
    · rfl
    · rename_i hn; rw [o4 hn]; rfl
  · rw [c5]; split
    · rfl
    · rename_i hn; rw [o5 hn]; rfl
  · intro f hf
    rw [c1 f hf]; split
    · rfl
    · rename_i hn
      rw [others_zero ho f hf hn]
      rcases lt6 hf with rfl | rfl | rfl | rfl | rfl | rfl <;> rfl
theorem right_few {r : Rc} (h : right r = true) : r.few := by
  have hk := right_kind h
  unfold right at h
  simp only [Bool.and_eq_true, Bool.not_eq_true'] at h
  have ho := others_rest h.1.2
  have ha := List.all_eq_true.1 h.2
  constructor
  · by_cases h9 : 7 ∈ fl r.kind
    · have h1 := ha 7 h9
      simp only [rf, show (7 : Int).toNat = 7 from rfl, show ¬ (7 : Nat) = 6 by decide, if_false, if_true] at h1
      unfold rightItems at h1
      simp only [Bool.and_eq_true] at h1
      have := rightFrom_len r.items (-1) h1.1 (by decide) (by decide)
      omega
    · rw [ho.2.1 h9]; decide
  · by_cases h10 : 8 ∈ fl r.kind
    · have h1 := ha 8 h10
      simp only [rf, show (8 : Int).toNat = 8 from rfl, show ¬ (8 : Nat) = 6 by decide, show ¬ (8 : Nat) = 7 by decide, if_false, if_true] at h1
      unfold rightNodes at h1
      have := nodesFrom_len r.nodes 0 h1 (by decide) (by decide)
      omega
    · rw [ho.2.2.1 h10]; decide
theorem bytes_inj {a b : Rc} (ha : right a = true) (hb : right b = true) (oa : a.ok) (ob : b.ok) (h : bytesR a = bytesR b) : a = b := by
  unfold bytesR at h
  obtain ⟨h1, h2⟩ := List.cons.inj h
  have ka := right_kind ha
  have kb := right_kind hb
  have hk : a.kind = b.kind := by
    have := congrArg UInt8.toNat h1
    simp only [UInt8.toNat_ofNat'] at this
    omega
  have f1 := fold_put oa (right_few ha) (fl a.kind) (rcK a.kind) []
  have f2 := fold_put ob (right_few hb) (fl b.kind) (rcK b.kind) []
  rw [← hk] at f2 h2
  rw [h2, f2] at f1
  have f3 := congrArg Prod.fst f1
  simp only at f3
  rw [← right_copy ha, ← right_copy hb, ← hk]
  exact f3.symm
end Go.Proofs.Ytfnkjdkckpdfhaa.Msg
