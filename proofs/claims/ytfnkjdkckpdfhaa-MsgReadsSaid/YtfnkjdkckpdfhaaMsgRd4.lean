/-
  Layer 10: the document's way to read a whole record goes beside the code's. Conditions: none.
-/
import Derived.Test.YtfnkjdkckpdfhaaMsgSim
import Derived.Test.YtfnkjdkckpdfhaaMsgCut
import Derived.Test.YtfnkjdkckpdfhaaMsgRefM
namespace Go.Proofs.Ytfnkjdkckpdfhaa.Msg
set_option maxRecDepth 100000
open Go.RowKit Go.Proofs.Ytfnkjdkckpdfhaa.Mem Go.Proofs.Ytfnkjdkckpdfhaa.Item Go.Proofs.Ytfnkjdkckpdfhaa.Wire

theorem inA_le (k : Nat) (s : ByteArray) (a : Nat) (b : Bool) (h : a ≤ s.size) : inA k s a b ≤ s.size := by
  unfold inA
  split
  · rename_i hc
    unfold okZ at hc
    simp only [Bool.and_eq_true, Bool.not_eq_true', decide_eq_false_iff_not] at hc
    have := left_size s a h
    have h1 := hc.2.1
    have := sz_pos k
    omega
  · exact h
/-- A place in the whole bytes (bad?) goes beside what is left (broken?). -/
structure Sim0 (s : ByteArray) (a : Nat) (b : Bool) (u : ByteArray) (c : Bool) : Prop where
  le : a ≤ s.size
  bad : b = c
  left : b = false → s.extract a s.size = u
theorem brk_t (u : ByteArray) (n : Nat) : brk u true n = true := by unfold brk; split <;> rfl
theorem brk_or (u : ByteArray) (c : Bool) (n : Nat) : brk u c n = (c || brk u false n) := by unfold brk; split <;> simp
theorem inB_or (k : Nat) (s : ByteArray) (a : Nat) (b : Bool) : inB k s a b = (b || inB k s a false) := by cases b <;> rfl
theorem inB_false {k : Nat} {s : ByteArray} {a : Nat} {b : Bool} (h : inB k s a b = false) : b = false ∧ inB k s a false = false := by
  rw [inB_or, Bool.or_eq_false_iff] at h
  exact h
theorem Sim0.num {s u : ByteArray} {a : Nat} {b c : Bool} (h : Sim0 s a b u c) (k : Nat) (hk : k ≠ 1) :
    Sim0 s (inA k s a b) (inB k s a b) (rest u (sz k)) (brk u c (sz k)) ∧ (inB k s a b = false → inV k s a b = IntKind.i64.wrap (Wire.num u (sz k) : Nat)) := by
  obtain ⟨hl, rfl, hu⟩ := h
  cases b with
  | true => exact ⟨⟨hl, (brk_t _ _).symm, fun e => by cases e⟩, fun e => by cases e⟩
  | false =>
    obtain ⟨h1, h2⟩ := sim_num k hk s a hl
    rw [hu rfl] at h1 h2
    refine ⟨⟨inA_le k s a false hl, h1, fun e => (h2 e).2.1⟩, fun e => (h2 e).1⟩
theorem Sim0.bool {s u : ByteArray} {a : Nat} {b c : Bool} (h : Sim0 s a b u c) :
    Sim0 s (inA 1 s a b) (inB 1 s a b) (if 1 < Wire.num u 1 then nil else rest u 1) (if 1 < Wire.num u 1 then true else brk u c 1) ∧ (inB 1 s a b = false → (inV 1 s a b == 1) = (Wire.num u 1 == 1)) := by
  obtain ⟨hl, rfl, hu⟩ := h
  cases b with
  | true => exact ⟨⟨hl, by rw [brk_t]; simp; rfl, fun e => by cases e⟩, fun e => by cases e⟩
  | false =>
    obtain ⟨h1, h2⟩ := sim_bool s a hl
    rw [hu rfl] at h1 h2
    refine ⟨⟨inA_le 1 s a false hl, h1, fun e => ?_⟩, fun e => (h2 e).1⟩
    obtain ⟨_, h4, _, _, h5⟩ := h2 e
    rw [if_neg h5]
    exact h4
/-- A whole state. -/
structure Sim (s : ByteArray) (x : Rc) (a : Nat) (b : Bool) (T : Rc × ByteArray × Bool) : Prop where
  pos : Sim0 s a b T.2.1 T.2.2
  same : b = false → x = T.1
theorem sim_start (s : ByteArray) : Sim s (rcK (Wire.num s 1 : Nat)) (inA 0 s 0 false) (inB 0 s 0 false) (rcK (Wire.num s 1 : Nat), rest s 1, brk s false 1) := by
  obtain ⟨_, h2, h3⟩ := sim_kind s
  refine ⟨⟨inA_le 0 s 0 false (Nat.zero_le _), h2, fun e => ?_⟩, fun _ => rfl⟩
  obtain ⟨e1, e2, _⟩ := h3 e
  rw [e1]
  exact e2
theorem Sim.num {s : ByteArray} {x : Rc} {a : Nat} {b : Bool} {T : Rc × ByteArray × Bool} (h : Sim s x a b T) (f : Nat) (hf : f < 6) :
    Sim s (setN x f (inV 3 s a b)) (inA 3 s a b) (inB 3 s a b) (stepF f T) := by
  rw [stepF_num f hf]
  obtain ⟨h1, h2⟩ := h.pos.num 3 (by decide)
  refine ⟨h1, fun e => ?_⟩
  show setN x f _ = setN T.1 f _
  rw [h2 e, h.same (inB_false e).1]
  rfl
/-- The numbers of a kind, read one behind the other: j of the six. -/
def numM (s : ByteArray) (k : Int) (t : Rc × Nat × Bool) : Nat → Rc × Nat × Bool
  | 0 => t
  | j + 1 => if hasR k j = true then (setN (numM s k t j).1 j (inV 3 s (numM s k t j).2.1 (numM s k t j).2.2), inA 3 s (numM s k t j).2.1 (numM s k t j).2.2, inB 3 s (numM s k t j).2.1 (numM s k t j).2.2) else numM s k t j
def nlJ (k : Int) : Nat → List Int
  | 0 => []
  | j + 1 => if hasR k j = true then nlJ k j ++ [(j : Int)] else nlJ k j
/-- The fields of a kind that are no numbers. -/
def tl (k : Int) : List Int := if k = 7 then [8] else if k = 9 then [6, 7, 8] else if k = 12 ∨ k = 13 then [6] else if k = 10 ∨ k = 11 ∨ k = 14 then [6, 9] else []
theorem fl_parts {k : Int} (h : 1 ≤ k ∧ k ≤ 15) : fl k = nlJ k 6 ++ tl k := by
  rcases (show k = 1 ∨ k = 2 ∨ k = 3 ∨ k = 4 ∨ k = 5 ∨ k = 6 ∨ k = 7 ∨ k = 8 ∨ k = 9 ∨ k = 10 ∨ k = 11 ∨ k = 12 ∨ k = 13 ∨ k = 14 ∨ k = 15 by omega) with rfl | rfl | rfl | rfl | rfl | rfl | rfl | rfl | rfl | rfl | rfl | rfl | rfl | rfl | rfl <;> decide
theorem sim_numM (s : ByteArray) (k : Int) {t : Rc × Nat × Bool} {T : Rc × ByteArray × Bool} (h : Sim s t.1 t.2.1 t.2.2 T) : ∀ j, j ≤ 6 → Sim s (numM s k t j).1 (numM s k t j).2.1 (numM s k t j).2.2 (foldF (nlJ k j) T) := by
  intro j
  induction j with
  | zero => intro _; exact h
  | succ j ih =>
    intro hj
    have i1 := ih (by omega)
    unfold numM nlJ
    by_cases hh : hasR k j = true
    · rw [if_pos hh, if_pos hh]
      have e : foldF (nlJ k j ++ [(j : Int)]) T = stepF j (foldF (nlJ k j) T) := by
        unfold foldF
        rw [List.foldl_append]
        rfl
      rw [e]
      exact i1.num j (by omega)
    · rw [if_neg hh, if_neg hh]
      exact i1
theorem dec0_parts {s : ByteArray} {k : Int} (hk : 1 ≤ k ∧ k ≤ 15) (h : ((Wire.num s 1 : Nat) : Int) = k) : dec0 s = foldF (tl k) (foldF (nlJ k 6) (rcK k, rest s 1, brk s false 1)) := by
  unfold dec0
  rw [h, fl_parts hk]
  unfold foldF
  rw [List.foldl_append]
/-- A record of which only the kind and the numbers are there. -/
def Plain (x : Rc) (k : Int) : Prop := x.kind = k ∧ x.tid = ⟨0, 0, 0⟩ ∧ x.items = [] ∧ x.nodes = [] ∧ x.yes = false
theorem plain_set {x : Rc} {k : Int} (h : Plain x k) (f : Nat) (n : Int) : Plain (setN x f n) k := by
  obtain ⟨s0, s1, s2, s3, s4⟩ := setN_rest x f n
  exact ⟨s0.trans h.1, s1.trans h.2.1, s2.trans h.2.2.1, s3.trans h.2.2.2.1, s4.trans h.2.2.2.2⟩
theorem numM_plain (s : ByteArray) (k : Int) {t : Rc × Nat × Bool} {q : Int} (h : Plain t.1 q) : ∀ j, Plain (numM s k t j).1 q := by
  intro j
  induction j with
  | zero => exact h
  | succ j ih =>
    unfold numM
    split
    · exact plain_set ih _ _
    · exact ih
theorem numM_le (s : ByteArray) (k : Int) {t : Rc × Nat × Bool} (h : t.2.1 ≤ s.size) : ∀ j, (numM s k t j).2.1 ≤ s.size := by
  intro j
  induction j with
  | zero => exact h
  | succ j ih =>
    unfold numM
    split
    · exact inA_le 3 s _ _ ih
    · exact ih
theorem dec_kind {s : ByteArray} (h : ¬ (1 ≤ ((Wire.num s 1 : Nat) : Int) ∧ ((Wire.num s 1 : Nat) : Int) ≤ 15)) : dec s = none := by
  cases hd : dec s with
  | none => rfl
  | some r =>
    exfalso
    apply h
    have hr := right_kind (dec_back hd).1
    unfold dec at hd
    split at hd
    · have e := Option.some.inj hd
      rw [← e] at hr
      unfold dec0 at hr
      rw [fold_kind] at hr
      exact hr
    · cases hd
/-- The name as the document reads it. -/
def tidD (s : ByteArray) (a : Nat) (b : Bool) : Tid := ⟨inV 3 s a b, inV 3 s (inA 3 s a b) (inB 3 s a b), inV 3 s (inA 3 s (inA 3 s a b) (inB 3 s a b)) (inB 3 s (inA 3 s a b) (inB 3 s a b))⟩
def a3 (s : ByteArray) (a : Nat) (b : Bool) : Nat := inA 3 s (inA 3 s (inA 3 s a b) (inB 3 s a b)) (inB 3 s (inA 3 s a b) (inB 3 s a b))
def c3 (s : ByteArray) (a : Nat) (b : Bool) : Bool := inB 3 s (inA 3 s (inA 3 s a b) (inB 3 s a b)) (inB 3 s (inA 3 s a b) (inB 3 s a b))
theorem Sim.tid {s : ByteArray} {x : Rc} {a : Nat} {b : Bool} {T : Rc × ByteArray × Bool} (h : Sim s x a b T) :
    Sim s { x with tid := tidD s a b } (a3 s a b) (c3 s a b) (stepF 6 T) := by
  obtain ⟨h1, e1⟩ := h.pos.num 3 (by decide)
  obtain ⟨h2, e2⟩ := h1.num 3 (by decide)
  obtain ⟨h3, e3⟩ := h2.num 3 (by decide)
  refine ⟨h3, fun e => ?_⟩
  have f2 := (inB_false e).1
  have f1 := (inB_false f2).1
  have f0 := (inB_false f1).1
  show _ = { T.1 with tid := readTid T.2.1 T.2.2 }
  rw [h.same f0]
  have hb := h3.bad.symm.trans e
  unfold readTid
  rw [if_neg (by
    show ¬ brkTid T.2.1 T.2.2 = true
    unfold brkTid
    have : brk (rest (rest T.2.1 8) 8) (brk (rest T.2.1 8) (brk T.2.1 T.2.2 8) 8) 8 = false := hb
    rw [this]; decide)]
  unfold tidD n1 n2 n3
  rw [e1 f1, e2 f2, e3 e]
  rfl
theorem Sim.yes {s : ByteArray} {x : Rc} {a : Nat} {b : Bool} {T : Rc × ByteArray × Bool} (h : Sim s x a b T) :
    Sim s { x with yes := inV 1 s a b == 1 } (inA 1 s a b) (inB 1 s a b) (stepF 9 T) := by
  obtain ⟨h1, e1⟩ := h.pos.bool
  refine ⟨h1, fun e => ?_⟩
  show _ = { T.1 with yes := Wire.num T.2.1 1 == 1 }
  rw [h.same (inB_false e).1, e1 e]
/-- An item as the document reads it: where it is then, is it bad then? -/
def itA (s : ByteArray) (a : Nat) (b : Bool) : Nat := inA 3 s (inA 1 s (a3 s a b) (c3 s a b)) (inB 1 s (a3 s a b) (c3 s a b))
def itC (s : ByteArray) (a : Nat) (b : Bool) : Bool := inB 3 s (inA 1 s (a3 s a b) (c3 s a b)) (inB 1 s (a3 s a b) (c3 s a b))
def itD (s : ByteArray) (a : Nat) (b : Bool) : It := ⟨inV 3 s a b, inV 3 s (inA 3 s a b) (inB 3 s a b), inV 3 s (inA 3 s (inA 3 s a b) (inB 3 s a b)) (inB 3 s (inA 3 s a b) (inB 3 s a b)), inV 1 s (a3 s a b) (c3 s a b) == 1,
  inV 3 s (inA 1 s (a3 s a b) (c3 s a b)) (inB 1 s (a3 s a b) (c3 s a b))⟩
theorem Sim0.item {s u : ByteArray} {a : Nat} {b c : Bool} (h : Sim0 s a b u c) : Sim0 s (itA s a b) (itC s a b) (r5 u) (b5 u c) ∧ (itC s a b = false → itD s a b = itOf u) := by
  obtain ⟨h1, e1⟩ := h.num 3 (by decide)
  obtain ⟨h2, e2⟩ := h1.num 3 (by decide)
  obtain ⟨h3, e3⟩ := h2.num 3 (by decide)
  obtain ⟨h4, e4⟩ := h3.bool
  obtain ⟨h5, e5⟩ := h4.num 3 (by decide)
  refine ⟨h5, fun e => ?_⟩
  have f4 := (inB_false e).1
  have f3 := (inB_false f4).1
  have f2 := (inB_false f3).1
  have f1 := (inB_false f2).1
  unfold itD itOf
  rw [e1 f1, e2 f2, e3 f3]
  have g4 := e4 f4
  have g5 := e5 e
  show It.mk _ _ _ (inV 1 s _ _ == 1) _ = It.mk _ _ _ _ _
  unfold a3 c3 at *
  rw [g4, g5]
  rfl
theorem brkL_true (n : Nat) (u : ByteArray) : brkL n u true = true := by
  induction n with
  | zero => rfl
  | succ n ih =>
    rw [brkL, ih]
    unfold b5 b4 b3 b2 b1
    rw [brk_t, brk_t, brk_t, brk_t, ite_self, brk_t]
theorem brkN_true (n : Nat) (u : ByteArray) : brkN n u true = true := by
  induction n with
  | zero => rfl
  | succ n ih => rw [brkN, ih, brk_t]
/-- So many items, one behind the other. -/
def itsA (s : ByteArray) : Nat → Nat → Bool → Nat × Bool × List It
  | 0, a, b => (a, b, [])
  | n + 1, a, b => (itA s (itsA s n a b).1 (itsA s n a b).2.1, itC s (itsA s n a b).1 (itsA s n a b).2.1, (itsA s n a b).2.2 ++ [itD s (itsA s n a b).1 (itsA s n a b).2.1])
theorem itC_false {s : ByteArray} {a : Nat} {b : Bool} (h : itC s a b = false) : b = false := (inB_false (inB_false (inB_false (inB_false (inB_false h).1).1).1).1).1
theorem Sim0.items {s u : ByteArray} {a : Nat} {b c : Bool} (h : Sim0 s a b u c) (n : Nat) : Sim0 s (itsA s n a b).1 (itsA s n a b).2.1 (restL n u) (brkL n u c) ∧ ((itsA s n a b).2.1 = false → (itsA s n a b).2.2 = readL n u) := by
  induction n with
  | zero => exact ⟨h, fun _ => rfl⟩
  | succ n ih =>
    obtain ⟨i1, i2⟩ := ih
    obtain ⟨j1, j2⟩ := i1.item
    refine ⟨j1, fun e => ?_⟩
    show (itsA s n a b).2.2 ++ [_] = readL n u ++ [_]
    rw [i2 (itC_false e), j2 e]
theorem itsA_length (s : ByteArray) (n a : Nat) (b : Bool) : (itsA s n a b).2.2.length = n := by
  induction n with
  | zero => rfl
  | succ n ih => show ((itsA s n a b).2.2 ++ [_]).length = _; rw [List.length_append, ih]; rfl
/-- So many nodes. -/
def ndsA (s : ByteArray) : Nat → Nat → Bool → Nat × Bool × List Int
  | 0, a, b => (a, b, [])
  | n + 1, a, b => (inA 3 s (ndsA s n a b).1 (ndsA s n a b).2.1, inB 3 s (ndsA s n a b).1 (ndsA s n a b).2.1, (ndsA s n a b).2.2 ++ [inV 3 s (ndsA s n a b).1 (ndsA s n a b).2.1])
theorem Sim0.nodes {s u : ByteArray} {a : Nat} {b c : Bool} (h : Sim0 s a b u c) (n : Nat) : Sim0 s (ndsA s n a b).1 (ndsA s n a b).2.1 (restN n u) (brkN n u c) ∧ ((ndsA s n a b).2.1 = false → (ndsA s n a b).2.2 = readN n u) := by
  induction n with
  | zero => exact ⟨h, fun _ => rfl⟩
  | succ n ih =>
    obtain ⟨i1, i2⟩ := ih
    obtain ⟨j1, j2⟩ := i1.num 3 (by decide)
    refine ⟨j1, fun e => ?_⟩
    show (ndsA s n a b).2.2 ++ [_] = readN n u ++ [_]
    rw [i2 (inB_false e).1, j2 e]
    rfl
theorem ndsA_length (s : ByteArray) (n a : Nat) (b : Bool) : (ndsA s n a b).2.2.length = n := by
  induction n with
  | zero => rfl
  | succ n ih => show ((ndsA s n a b).2.2 ++ [_]).length = _; rw [List.length_append, ih]; rfl
/-- A count. -/
def cnt (s : ByteArray) (a : Nat) (b : Bool) : Nat := (inV 2 s a b).toNat
theorem num2_lt (u : ByteArray) : Wire.num u 2 < 65536 := by
  have := num_lt u 2 2 (Nat.le_refl _)
  rwa [show (256 : Nat) ^ 2 = 65536 from rfl] at this
theorem wrap2 (u : ByteArray) : IntKind.i64.wrap (Wire.num u 2 : Nat) = (Wire.num u 2 : Nat) := by
  have := num2_lt u
  rw [IntKind.wrap_i64]
  omega
theorem inV_bad {k : Nat} {s : ByteArray} {a : Nat} {b : Bool} (h : inB k s a b = true) : inV k s a b = 0 := by
  unfold inB at h
  unfold inV
  split at h
  · cases h
  · rename_i hc
    rw [if_neg hc]
theorem cnt_eq (s : ByteArray) (a : Nat) (b : Bool) : inV 2 s a b = (cnt s a b : Nat) := by
  unfold cnt
  unfold inV
  split
  · rename_i hc
    unfold okZ at hc
    simp only [Bool.and_eq_true, Bool.not_eq_true', decide_eq_false_iff_not] at hc
    have := head_lt (s.extract a s.size) (sz 2) (by omega)
    rw [show (256 : Nat) ^ sz 2 = 65536 from rfl] at this
    rw [IntKind.wrap_i64]
    omega
  · rfl
theorem Sim0.count {s u : ByteArray} {a : Nat} {b c : Bool} (h : Sim0 s a b u c) : cnt s a b ≤ 65535 ∧ (16 < cnt s a b → fewB u c = true) ∧
    (cnt s a b ≤ 16 → Sim0 s (inA 2 s a b) (inB 2 s a b) (fewR u) (fewB u c) ∧ (inB 2 s a b = false → cnt s a b = fewN u) ∧ (inB 2 s a b = true → cnt s a b = 0)) := by
  obtain ⟨h1, h2⟩ := h.num 2 (by decide)
  have hlt := num2_lt u
  cases e : inB 2 s a b with
  | true =>
    have hz : cnt s a b = 0 := by unfold cnt; rw [inV_bad e]; rfl
    refine ⟨by omega, fun hc => by omega, fun _ => ⟨⟨h1.le, ?_, fun e' => (by cases e')⟩, (fun e' => (by cases e')), fun _ => hz⟩⟩
    have hb : brk u c 2 = true := h1.bad.symm.trans e
    unfold fewB
    split
    · rfl
    · exact hb.symm
  | false =>
    have hv := h2 e
    have hc : cnt s a b = Wire.num u 2 := by
      unfold cnt
      rw [hv]
      show (IntKind.i64.wrap (Wire.num u 2 : Nat)).toNat = _
      rw [wrap2]
      rfl
    rw [hc]
    refine ⟨by omega, fun h16 => (by unfold fewB; rw [if_pos h16]), fun h16 => ?_⟩
    have hn : ¬ 16 < Wire.num u 2 := by omega
    refine ⟨⟨h1.le, ?_, fun _ => ?_⟩, fun _ => ?_, fun e' => (by cases e')⟩
    · unfold fewB
      rw [if_neg hn]
      exact e.symm.trans h1.bad
    · unfold fewR
      rw [if_neg hn]
      exact h1.left e
    · unfold fewN
      rw [if_neg hn]
theorem Sim.items {s : ByteArray} {x : Rc} {a : Nat} {b : Bool} {T : Rc × ByteArray × Bool} (h : Sim s x a b T) (hc : cnt s a b ≤ 16) :
    Sim s { x with items := (itsA s (cnt s a b) (inA 2 s a b) (inB 2 s a b)).2.2 } (itsA s (cnt s a b) (inA 2 s a b) (inB 2 s a b)).1 (itsA s (cnt s a b) (inA 2 s a b) (inB 2 s a b)).2.1 (stepF 7 T) := by
  obtain ⟨hp, hn, hz⟩ := h.pos.count.2.2 hc
  obtain ⟨h1, h2⟩ := hp.items (cnt s a b)
  rcases Bool.eq_false_or_eq_true (inB 2 s a b) with e | e
  · skip
    rw [hz e] at h1 ⊢
    refine ⟨⟨h1.le, ?_, fun e' => ?_⟩, fun e' => ?_⟩
    · show inB 2 s a b = brkL (fewN T.2.1) (fewR T.2.1) (fewB T.2.1 T.2.2)
      rw [← hp.bad, e, brkL_true]
    · have e2 : inB 2 s a b = false := e'
      rw [e] at e2
      cases e2
    · have e2 : inB 2 s a b = false := e'
      rw [e] at e2
      cases e2
  · skip
    rw [hn e] at h1 h2 ⊢
    refine ⟨h1, fun e' => ?_⟩
    show _ = { T.1 with items := readItems T.2.1 T.2.2 }
    have hb0 := (inB_false e).1
    rw [h.same hb0, h2 e']
    unfold readItems
    rw [if_neg (by rw [← h1.bad, e']; decide)]
theorem Sim.nodes {s : ByteArray} {x : Rc} {a : Nat} {b : Bool} {T : Rc × ByteArray × Bool} (h : Sim s x a b T) (hc : cnt s a b ≤ 16) :
    Sim s { x with nodes := (ndsA s (cnt s a b) (inA 2 s a b) (inB 2 s a b)).2.2 } (ndsA s (cnt s a b) (inA 2 s a b) (inB 2 s a b)).1 (ndsA s (cnt s a b) (inA 2 s a b) (inB 2 s a b)).2.1 (stepF 8 T) := by
  obtain ⟨hp, hn, hz⟩ := h.pos.count.2.2 hc
  obtain ⟨h1, h2⟩ := hp.nodes (cnt s a b)
  rcases Bool.eq_false_or_eq_true (inB 2 s a b) with e | e
  · skip
    rw [hz e] at h1 ⊢
    refine ⟨⟨h1.le, ?_, fun e' => ?_⟩, fun e' => ?_⟩
    · show inB 2 s a b = brkN (fewN T.2.1) (fewR T.2.1) (fewB T.2.1 T.2.2)
      rw [← hp.bad, e, brkN_true]
    · have e2 : inB 2 s a b = false := e'
      rw [e] at e2
      cases e2
    · have e2 : inB 2 s a b = false := e'
      rw [e] at e2
      cases e2
  · skip
    rw [hn e] at h1 h2 ⊢
    refine ⟨h1, fun e' => ?_⟩
    show _ = { T.1 with nodes := readNodes T.2.1 T.2.2 }
    have hb0 := (inB_false e).1
    rw [h.same hb0, h2 e']
    unfold readNodes
    rw [if_neg (by rw [← h1.bad, e']; decide)]
theorem step_true (f : Nat) (T : Rc × ByteArray × Bool) (h : T.2.2 = true) : (stepF f T).2.2 = true := by
  obtain ⟨x, u, c⟩ := T
  obtain rfl : c = true := h
  unfold stepF
  split
  · show brkTid u true = true
    unfold brkTid
    rw [brk_t, brk_t, brk_t]
  split
  · show brkL _ _ (fewB u true) = true
    unfold fewB
    rw [brk_t, ite_self, brkL_true]
  split
  · show brkN _ _ (fewB u true) = true
    unfold fewB
    rw [brk_t, ite_self, brkN_true]
  split
  · show (if 1 < Wire.num u 1 then true else brk u true 1) = true
    rw [brk_t, ite_self]
  · exact brk_t _ _
/-- A count that is too great breaks it. -/
theorem Sim.items_no {s : ByteArray} {x : Rc} {a : Nat} {b : Bool} {T : Rc × ByteArray × Bool} (h : Sim s x a b T) (hc : 16 < cnt s a b) : (stepF 7 T).2.2 = true := by
  show brkL _ _ (fewB T.2.1 T.2.2) = true
  rw [h.pos.count.2.1 hc, brkL_true]
theorem Sim.nodes_no {s : ByteArray} {x : Rc} {a : Nat} {b : Bool} {T : Rc × ByteArray × Bool} (h : Sim s x a b T) (hc : 16 < cnt s a b) : (stepF 8 T).2.2 = true := by
  show brkN _ _ (fewB T.2.1 T.2.2) = true
  rw [h.pos.count.2.1 hc, brkN_true]
theorem dec0_ok (s : ByteArray) : (dec0 s).1.ok := by
  have h1 := num_lt s 1 1 (Nat.le_refl _)
  rw [show (256 : Nat) ^ 1 = 256 from rfl] at h1
  exact fold_ok _ _ ⟨by show I64 ((Wire.num s 1 : Nat) : Int); unfold I64; omega, ⟨zero_ok, zero_ok, zero_ok⟩, fun x hx => (by cases hx), fun x hx => (by cases hx), zero_ok, zero_ok, zero_ok, zero_ok, zero_ok, zero_ok⟩
theorem fold_true (l : List Int) : ∀ (T : Rc × ByteArray × Bool), T.2.2 = true → (foldF l T).2.2 = true := by
  induction l with
  | nil => intro T h; exact h
  | cons a l ih => intro T h; exact ih _ (step_true _ _ h)
/-- Nothing is read: it is broken. -/
theorem dec_broken {s : ByteArray} (h : (dec0 s).2.2 = true) : dec s = none := by
  unfold dec endV
  rw [h]
  rfl
/-- What the document's way comes to at its end. -/
theorem Sim.fin {s : ByteArray} {x : Rc} {a : Nat} {b : Bool} (h : Sim s x a b (dec0 s)) :
    (b = true → dec s = none) ∧ (b = false → a ≠ s.size → dec s = none) ∧ (b = false → a = s.size → x.ok ∧ x.few ∧ dec s = if right x = true then some x else none) := by
  refine ⟨fun e => dec_broken (h.pos.bad.symm.trans e), fun e ha => ?_, fun e ha => ?_⟩
  · have h1 := h.pos.left e
    have h2 := left_size s a h.pos.le
    have hne : (dec0 s).2.1 ≠ nil := by
      intro e2
      rw [h1, e2] at h2
      have h3 : nil.size = 0 := rfl
      have := h.pos.le
      omega
    unfold dec endV
    rw [if_neg (by
      rintro ⟨h3, _⟩
      rw [if_neg hne] at h3
      split at h3 <;> cases h3)]
  · have h1 := h.pos.left e
    have h2 := left_size s a h.pos.le
    have hb := h.pos.bad
    rw [e] at hb
    have hne : (dec0 s).2.1 = nil := by
      rw [← h1, ha]
      apply ba_ext
      rw [ext_list]
      simp
    have hs := h.same e
    refine ⟨by rw [hs]; exact dec0_ok s, by rw [hs]; exact dec0_few s, ?_⟩
    unfold dec endV
    rw [← hb, hne, hs]
    by_cases hr : right (dec0 s).1 = true
    · rw [if_pos hr, if_pos ⟨rfl, hr⟩]
    · rw [if_neg hr, if_neg (fun hh => hr hh.2)]
end Go.Proofs.Ytfnkjdkckpdfhaa.Msg
