/-
  Layer 18: a table of leases as a list of slots, and the document's list of holds, without memory. Conditions: none.
-/
import Derived.Test.YtiobblmagjbhjaaApp
namespace Go.Proofs.Ytiobblmagjbhjaa.Lea
open Go.RowKit Go.Deep Go.Proofs.Ytiobblmagjbhjaa.Mem

/-- A transaction's name. -/
structure Lt where
  node : Int
  epoch : Int
  seq : Int
deriving DecidableEq
/-- A cell's slot. -/
structure Sv where
  tid : Lt
  til : Int
  held : Bool
deriving DecidableEq
/-- The document's hold. -/
structure Dh where
  cell : Int
  tid : Lt
  til : Int
deriving DecidableEq
def sv0 : Sv := ⟨⟨0, 0, 0⟩, 0, false⟩
def Lt.v (t : Lt) : Value := .agg #[.int .i64 t.node, .int .i64 t.epoch, .int .i64 t.seq]
def Sv.vals (s : Sv) : List Value := [.int .i64 s.tid.node, .int .i64 s.tid.epoch, .int .i64 s.tid.seq, .int .i64 s.til, .bool s.held]
def Dh.vals (d : Dh) : List Value := [.int .i64 d.cell, .int .i64 d.tid.node, .int .i64 d.tid.epoch, .int .i64 d.tid.seq, .int .i64 d.til]
theorem fit_sv (l : List Sv) : Fit 5 (l.map Sv.vals) := ⟨fun v hv => by obtain ⟨x, _, rfl⟩ := List.mem_map.1 hv; rfl, fun v hv u hu => by
  obtain ⟨x, _, rfl⟩ := List.mem_map.1 hv
  unfold Sv.vals at hu
  simp only [List.mem_cons, List.not_mem_nil, or_false] at hu
  rcases hu with rfl | rfl | rfl | rfl | rfl <;> rfl⟩
theorem fit_dh (l : List Dh) : Fit 5 (l.map Dh.vals) := ⟨fun v hv => by obtain ⟨x, _, rfl⟩ := List.mem_map.1 hv; rfl, fun v hv u hu => by
  obtain ⟨x, _, rfl⟩ := List.mem_map.1 hv
  unfold Dh.vals at hu
  simp only [List.mem_cons, List.not_mem_nil, or_false] at hu
  rcases hu with rfl | rfl | rfl | rfl | rfl <;> rfl⟩
/-- A cell's slot; where there is none, nobody holds it. -/
def ofT (T : List Sv) (c : Int) : Sv := if 0 ≤ c then T.getD c.toNat sv0 else sv0
def inT (n : Nat) (c : Int) : Bool := decide (0 ≤ c) && decide (c < (n : Int))
def hasT (n : Nat) (l : List Int) : Bool := l.all (inT n)
def mayS (who : Lt) (s : Sv) : Bool := !(s.held && !decide (s.tid = who))
def mayL (T : List Sv) (who : Lt) (l : List Int) : Bool := l.all fun c => mayS who (ofT T c)
def mayT (T : List Sv) (who : Lt) (l : List Int) : Bool := hasT T.length l && mayL T who l
def holdS (who : Lt) (u : Int) (s : Sv) : Sv := ⟨who, if s.held then max u s.til else u, true⟩
def set1 (who : Lt) (u : Int) (T : List Sv) (c : Int) : List Sv := T.set c.toNat (holdS who u (ofT T c))
def setsT (who : Lt) (u : Int) (T : List Sv) (l : List Int) : List Sv := l.foldl (set1 who u) T
def errT (T : List Sv) (who : Lt) (l : List Int) : Int := if hasT T.length l = true then (if mayL T who l = true then 0 else 12) else 1
def holdT (T : List Sv) (who : Lt) (u : Int) (l : List Int) : List Sv := if errT T who l = 0 then setsT who u T l else T
def dropS (p : Sv → Bool) (s : Sv) : Sv := if (s.held && p s) = true then sv0 else s
def dropT (p : Sv → Bool) (T : List Sv) : List Sv := T.map (dropS p)
def goneT (p : Sv → Bool) : Nat → List Sv → List Int
  | _, [] => []
  | i, s :: r => (if (s.held && p s) = true then [(i : Int)] else []) ++ goneT p (i + 1) r
def byWho (who : Lt) (s : Sv) : Bool := decide (s.tid = who)
def byTime (now : Int) (s : Sv) : Bool := decide (s.til ≤ now)
def cntT (T : List Sv) : Nat := (T.filter (·.held)).length
/-- What holds of every table. -/
structure Tok (T : List Sv) : Prop where
  len : T.length ≤ 16
  free : ∀ s ∈ T, s.held = false → s = sv0
theorem Tok.new {n : Nat} (h : n ≤ 16) : Tok (List.replicate n sv0) := ⟨by rw [List.length_replicate]; exact h, fun s hs _ => List.eq_of_mem_replicate hs⟩
theorem ofT_nat {T : List Sv} {c : Nat} (h : c < T.length) : ofT T (c : Int) = T[c] := by
  unfold ofT
  rw [if_pos (by omega), Int.toNat_natCast, List.getD_eq_getElem?_getD, List.getElem?_eq_getElem h]
  rfl
theorem ofT_out {T : List Sv} {c : Int} (h : inT T.length c = false) : ofT T c = sv0 := by
  unfold ofT
  unfold inT at h
  by_cases h0 : 0 ≤ c
  · have h1 : ¬ c < (T.length : Int) := by simpa [h0] using h
    rw [if_pos h0, List.getD_eq_getElem?_getD, List.getElem?_eq_none (by omega)]
    rfl
  · rw [if_neg h0]
theorem inT_nat {n : Nat} {c : Int} (h : inT n c = true) : ∃ k : Nat, c = (k : Int) ∧ k < n := by
  unfold inT at h
  rw [Bool.and_eq_true, decide_eq_true_eq, decide_eq_true_eq] at h
  exact ⟨c.toNat, by omega, by omega⟩
theorem nat_inT {n k : Nat} (h : k < n) : inT n (k : Int) = true := by
  unfold inT
  rw [Bool.and_eq_true, decide_eq_true_eq, decide_eq_true_eq]
  omega
theorem Tok.of {T : List Sv} (h : Tok T) (c : Int) (hh : (ofT T c).held = false) : ofT T c = sv0 := by
  cases hi : inT T.length c with
  | false => exact ofT_out hi
  | true =>
    obtain ⟨k, rfl, hk⟩ := inT_nat hi
    rw [ofT_nat hk] at hh ⊢
    exact h.free _ (List.getElem_mem hk) hh
theorem set1_len (who : Lt) (u : Int) (T : List Sv) (c : Int) : (set1 who u T c).length = T.length := List.length_set
theorem setsT_len (who : Lt) (u : Int) : ∀ (l : List Int) (T : List Sv), (setsT who u T l).length = T.length
  | [], _ => rfl
  | c :: l, T => (setsT_len who u l (set1 who u T c)).trans (set1_len ..)
theorem setsT_more (who : Lt) (u : Int) (l : List Int) (c : Int) (T : List Sv) : setsT who u T (l ++ [c]) = set1 who u (setsT who u T l) c := by
  unfold setsT
  rw [List.foldl_append]
  rfl
theorem Tok.set1 {T : List Sv} (h : Tok T) (who : Lt) (u c : Int) : Tok (set1 who u T c) := ⟨by rw [set1_len]; exact h.len, fun s hs e => by
  rcases List.mem_or_eq_of_mem_set hs with h1 | h1
  · exact h.free s h1 e
  · rw [h1] at e
    cases e⟩
theorem Tok.sets {who : Lt} {u : Int} : ∀ (l : List Int) {T : List Sv}, Tok T → Tok (setsT who u T l)
  | [], _, h => h
  | c :: l, _, h => Tok.sets l (h.set1 who u c)
theorem Tok.hold {T : List Sv} (h : Tok T) (who : Lt) (u : Int) (l : List Int) : Tok (holdT T who u l) := by
  unfold holdT
  split
  · exact Tok.sets l h
  · exact h
theorem dropT_len (p : Sv → Bool) (T : List Sv) : (dropT p T).length = T.length := List.length_map ..
theorem Tok.drop {T : List Sv} (h : Tok T) (p : Sv → Bool) : Tok (dropT p T) := ⟨by rw [dropT_len]; exact h.len, fun s hs e => by
  obtain ⟨x, hx, rfl⟩ := List.mem_map.1 hs
  unfold dropS at e ⊢
  split
  · rfl
  · rename_i hn
    rw [if_neg hn] at e
    exact h.free x hx e⟩
theorem holdT_len (T : List Sv) (who : Lt) (u : Int) (l : List Int) : (holdT T who u l).length = T.length := by
  unfold holdT
  split
  · exact setsT_len ..
  · rfl
theorem goneT_app (p : Sv → Bool) : ∀ (a b : List Sv) (i : Nat), goneT p i (a ++ b) = goneT p i a ++ goneT p (i + a.length) b
  | [], b, i => by simp [goneT]
  | s :: a, b, i => by
    rw [List.cons_append]
    show _ ++ goneT p (i + 1) (a ++ b) = (_ ++ goneT p (i + 1) a) ++ _
    rw [goneT_app p a b (i + 1), List.append_assoc, List.length_cons, show i + 1 + a.length = i + (a.length + 1) by omega]
theorem goneT_len (p : Sv → Bool) : ∀ (T : List Sv) (i : Nat), (goneT p i T).length ≤ T.length
  | [], _ => Nat.le_refl _
  | s :: T, i => by
    have := goneT_len p T (i + 1)
    unfold goneT
    rw [List.length_append, List.length_cons]
    split <;> simp <;> omega
/-- What is let go up to a place, and one more. -/
theorem goneT_more (p : Sv → Bool) {T : List Sv} {k : Nat} (hk : k < T.length) : goneT p 0 (T.take (k + 1)) = goneT p 0 (T.take k) ++ (if (T[k].held && p T[k]) = true then [(k : Int)] else []) := by
  rw [List.take_succ_eq_append_getElem hk, goneT_app, Nat.zero_add, List.length_take, Nat.min_eq_left (Nat.le_of_lt hk)]
  simp [goneT]
theorem mem_gone (p : Sv → Bool) : ∀ (T : List Sv) (i : Nat) (c : Int), c ∈ goneT p i T → ∃ (k : Nat) (h : k < T.length), c = ((i + k : Nat) : Int) ∧ T[k].held = true ∧ p T[k] = true
  | [], _, _, h => by cases h
  | s :: T, i, c, h => by
    unfold goneT at h
    rcases List.mem_append.1 h with h | h
    · split at h
      · rename_i hs
        rw [Bool.and_eq_true] at hs
        exact ⟨0, by simp, by simpa using h, hs.1, hs.2⟩
      · cases h
    · obtain ⟨k, hk, e, h1, h2⟩ := mem_gone p T (i + 1) c h
      exact ⟨k + 1, by simpa using hk, by rw [e]; congr 1; omega, by simpa using h1, by simpa using h2⟩
/-- While a table's slots are looked through: what lies behind is as it was. -/
def midT (p : Sv → Bool) (T : List Sv) (k : Nat) : List Sv := dropT p (T.take k) ++ T.drop k
theorem midT_len (p : Sv → Bool) (T : List Sv) (k : Nat) : (midT p T k).length = T.length := by
  unfold midT
  rw [List.length_append, dropT_len, ← List.length_append, List.take_append_drop]
theorem midT_at (p : Sv → Bool) {T : List Sv} {k : Nat} (hk : k < T.length) : (midT p T k)[k]'(by rw [midT_len]; exact hk) = T[k] := by
  unfold midT
  rw [List.getElem_append_right (by rw [dropT_len, List.length_take]; omega)]
  simp only [dropT_len, List.length_take, List.getElem_drop]
  congr 1
  omega
theorem midT_next (p : Sv → Bool) {T : List Sv} {k : Nat} (hk : k < T.length) : midT p T (k + 1) = (midT p T k).set k (dropS p T[k]) := by
  unfold midT
  rw [List.set_append_right _ _ (by rw [dropT_len, List.length_take]; omega), dropT_len, List.length_take, Nat.min_eq_left (Nat.le_of_lt hk), Nat.sub_self, List.drop_eq_getElem_cons hk, List.set_cons_zero, List.take_succ_eq_append_getElem hk]
  unfold dropT
  rw [List.map_append, List.append_assoc]
  rfl
theorem midT_same (p : Sv → Bool) {T : List Sv} {k : Nat} (hk : k < T.length) (h : (T[k].held && p T[k]) = false) : midT p T (k + 1) = midT p T k := by
  rw [midT_next p hk]
  have e : dropS p T[k] = (midT p T k)[k]'(by rw [midT_len]; exact hk) := by
    rw [midT_at p hk]
    unfold dropS
    rw [if_neg (by rw [h]; exact Bool.false_ne_true)]
  rw [e, List.set_getElem_self]
theorem midT_zero (p : Sv → Bool) (T : List Sv) : midT p T 0 = T := by simp [midT, dropT]
theorem midT_end (p : Sv → Bool) {T : List Sv} {k : Nat} (h : T.length ≤ k) : midT p T k = dropT p T := by
  unfold midT
  rw [List.take_of_length_le h, List.drop_of_length_le h, List.append_nil]
theorem cnt_more {T : List Sv} {k : Nat} (hk : k < T.length) : cntT (T.take (k + 1)) = cntT (T.take k) + (if T[k].held = true then 1 else 0) := by
  unfold cntT
  rw [List.take_succ_eq_append_getElem hk, List.filter_append, List.length_append]
  congr 1
  rw [List.filter_cons]
  split <;> rfl
theorem cnt_le (T : List Sv) : cntT T ≤ T.length := List.length_filter_le ..
/-! ## The document's list -/
def one (i : Nat) (s : Sv) : List Dh := if s.held = true then [⟨(i : Int), s.tid, s.til⟩] else []
def docF : Nat → List Sv → List Dh
  | _, [] => []
  | i, s :: r => one i s ++ docF (i + 1) r
theorem docF_app : ∀ (a b : List Sv) (i : Nat), docF i (a ++ b) = docF i a ++ docF (i + a.length) b
  | [], b, i => by simp [docF]
  | s :: a, b, i => by
    rw [List.cons_append]
    show _ ++ docF (i + 1) (a ++ b) = (_ ++ docF (i + 1) a) ++ _
    rw [docF_app a b (i + 1), List.append_assoc, List.length_cons, show i + 1 + a.length = i + (a.length + 1) by omega]
theorem docF_cells : ∀ (T : List Sv) (i : Nat) (d : Dh), d ∈ docF i T → (i : Int) ≤ d.cell ∧ d.cell < ((i + T.length : Nat) : Int)
  | [], _, _, h => by cases h
  | s :: T, i, d, h => by
    unfold docF at h
    rw [List.length_cons]
    rcases List.mem_append.1 h with h | h
    · unfold one at h
      split at h
      · rw [List.mem_singleton.1 h]
        dsimp only
        omega
      · cases h
    · have := docF_cells T (i + 1) d h
      omega
theorem docF_split {T : List Sv} {c : Nat} (h : c < T.length) : docF 0 T = docF 0 (T.take c) ++ (one c T[c] ++ docF (c + 1) (T.drop (c + 1))) := by
  conv => lhs; rw [← List.take_append_drop c T, docF_app, List.drop_eq_getElem_cons h, Nat.zero_add, List.length_take, Nat.min_eq_left (Nat.le_of_lt h)]
  rfl
theorem docF_set {T : List Sv} {c : Nat} (h : c < T.length) (s : Sv) : docF 0 (T.set c s) = docF 0 (T.take c) ++ (one c s ++ docF (c + 1) (T.drop (c + 1))) := by
  rw [docF_split (c := c) (by rw [List.length_set]; exact h), List.take_set_of_le (Nat.le_refl _), List.drop_set_of_lt (by omega), List.getElem_set_self]
theorem docF_len : ∀ (T : List Sv) (i : Nat), (docF i T).length = cntT T
  | [], _ => rfl
  | s :: T, i => by
    have h := docF_len T (i + 1)
    unfold cntT at h ⊢
    unfold docF one
    rw [List.length_append, h, List.filter_cons]
    split
    · simp; omega
    · simp
theorem docF_le {T : List Sv} (h : Tok T) : (docF 0 T).length ≤ 16 := by
  rw [docF_len]
  exact Nat.le_trans (cnt_le T) h.len
/-- Where a cell's hold stands; -1: nowhere. -/
def atD (c : Int) : List Dh → Nat → Int
  | [], _ => -1
  | t :: l, n => if t.cell = c then (n : Int) else atD c l (n + 1)
theorem atD_app (c : Int) : ∀ (a b : List Dh) (n : Nat), (∀ t ∈ a, t.cell ≠ c) → atD c (a ++ b) n = atD c b (n + a.length)
  | [], _, _, _ => rfl
  | t :: a, b, n, h => by
    rw [List.cons_append]
    show (if t.cell = c then (n : Int) else atD c (a ++ b) (n + 1)) = _
    rw [if_neg (h t List.mem_cons_self), atD_app c a b (n + 1) (fun x hx => h x (List.mem_cons_of_mem _ hx)), List.length_cons]
    congr 1
    omega
theorem atD_drop (c : Int) (l : List Dh) (n : Nat) (h : ∀ t ∈ l.take n, t.cell ≠ c) (hn : n ≤ l.length) : atD c l 0 = atD c (l.drop n) n := by
  conv => lhs; rw [← List.take_append_drop n l]
  rw [atD_app c _ _ 0 h, Nat.zero_add, List.length_take, Nat.min_eq_left hn]
theorem atD_none (c : Int) : ∀ (l : List Dh) (n : Nat), (∀ t ∈ l, t.cell ≠ c) → atD c l n = -1
  | [], _, _ => rfl
  | t :: l, n, h => by
    show (if t.cell = c then (n : Int) else atD c l (n + 1)) = _
    rw [if_neg (h t List.mem_cons_self)]
    exact atD_none c l _ fun x hx => h x (List.mem_cons_of_mem _ hx)
theorem take_low {T : List Sv} {c : Nat} (h : c ≤ T.length) : ∀ d ∈ docF 0 (T.take c), d.cell < (c : Int) := fun d hd => by
  have := (docF_cells _ _ d hd).2
  rwa [Nat.zero_add, List.length_take, Nat.min_eq_left h] at this
/-- A cell's hold in the document's list, and in the table. -/
theorem atD_doc (T : List Sv) (c : Int) : (atD c (docF 0 T) 0 = -1 ∧ (ofT T c).held = false) ∨
    ∃ (k : Nat) (h : k < (docF 0 T).length), atD c (docF 0 T) 0 = (k : Int) ∧ (ofT T c).held = true ∧ (docF 0 T)[k] = ⟨c, (ofT T c).tid, (ofT T c).til⟩ ∧ ∀ s : Sv, s.held = true → docF 0 (T.set c.toNat s) = (docF 0 T).set k ⟨c, s.tid, s.til⟩ := by
  cases hi : inT T.length c with
  | false =>
    refine Or.inl ⟨atD_none c _ _ fun d hd e => ?_, by rw [ofT_out hi]; rfl⟩
    have := docF_cells T 0 d hd
    unfold inT at hi
    rw [Bool.and_eq_false_iff, decide_eq_false_iff_not, decide_eq_false_iff_not] at hi
    omega
  | true =>
    obtain ⟨k, rfl, hk⟩ := inT_nat hi
    rw [ofT_nat hk]
    have hlow := take_low (T := T) (c := k) (Nat.le_of_lt hk)
    have hs := docF_split hk
    cases hh : T[k].held with
    | false =>
      refine Or.inl ⟨?_, rfl⟩
      unfold one at hs
      rw [hh, if_neg Bool.false_ne_true, List.nil_append] at hs
      rw [hs]
      refine atD_none _ _ _ fun d hd e => ?_
      rcases List.mem_append.1 hd with hd | hd
      · have := hlow d hd
        omega
      · have := (docF_cells _ _ d hd).1
        omega
    | true =>
      unfold one at hs
      rw [hh, if_pos rfl] at hs
      have hlt : (docF 0 (T.take k)).length < (docF 0 T).length := by rw [hs, List.length_append]; simp
      have hel : ∀ h, (docF 0 T)[(docF 0 (T.take k)).length]'h = ⟨(k : Int), T[k].tid, T[k].til⟩ := fun h => by
        apply Option.some.inj
        rw [← List.getElem?_eq_getElem, hs, List.getElem?_append_right (Nat.le_refl _), Nat.sub_self]
        rfl
      refine Or.inr ⟨(docF 0 (T.take k)).length, hlt, ?_, rfl, hel hlt, fun s he => ?_⟩
      · rw [hs, atD_app _ _ _ 0 (fun d hd e => by have := hlow d hd; omega), Nat.zero_add]
        show (if (k : Int) = (k : Int) then _ else _) = _
        rw [if_pos rfl]
      · rw [Int.toNat_natCast, docF_set hk s, hs, List.set_append_right _ _ (Nat.le_refl _), Nat.sub_self]
        unfold one
        rw [he, if_pos rfl]
        rfl
/-- One more is held: where it is put into the document's list. -/
theorem doc_ins {T : List Sv} {c : Nat} (hc : c < T.length) (hf : T[c].held = false) (s : Sv) (hs : s.held = true) : ∃ k, k ≤ (docF 0 T).length ∧ (∀ d ∈ (docF 0 T).take k, d.cell < (c : Int)) ∧ (∀ h : k < (docF 0 T).length, ¬ (docF 0 T)[k].cell < (c : Int)) ∧ docF 0 (T.set c s) = (docF 0 T).take k ++ [⟨(c : Int), s.tid, s.til⟩] ++ (docF 0 T).drop k := by
  have h1 := docF_split hc
  unfold one at h1
  rw [hf, if_neg Bool.false_ne_true, List.nil_append] at h1
  refine ⟨(docF 0 (T.take c)).length, by rw [h1, List.length_append]; omega, ?_, fun h => ?_, ?_⟩
  · rw [h1, List.take_left]
    exact take_low (Nat.le_of_lt hc)
  · have hm : (docF 0 T)[(docF 0 (T.take c)).length] ∈ docF (c + 1) (T.drop (c + 1)) := by
      have e : (docF 0 T)[(docF 0 (T.take c)).length]? = (docF (c + 1) (T.drop (c + 1)))[0]? := by rw [h1, List.getElem?_append_right (Nat.le_refl _), Nat.sub_self]
      rw [List.getElem?_eq_getElem h] at e
      exact List.mem_of_getElem? e.symm
    have := (docF_cells _ _ _ hm).1
    omega
  · rw [docF_set hc s]
    conv => rhs; rw [h1, List.take_left, List.drop_left]
    unfold one
    rw [hs, if_pos rfl, List.append_assoc]
/-- What is left, and what goes. -/
theorem doc_drop (p : Sv → Bool) (q : Dh → Bool) (h : ∀ (i : Nat) (s : Sv), q ⟨(i : Int), s.tid, s.til⟩ = p s) : ∀ (T : List Sv) (i : Nat), docF i (dropT p T) = (docF i T).filter (fun d => !q d) ∧ goneT p i T = ((docF i T).filter q).map (·.cell)
  | [], _ => ⟨rfl, rfl⟩
  | s :: T, i => by
    obtain ⟨h1, h2⟩ := doc_drop p q h T (i + 1)
    have hq := h i s
    unfold dropT at h1 ⊢
    rw [List.map_cons]
    show one i (dropS p s) ++ docF (i + 1) (T.map (dropS p)) = List.filter _ (one i s ++ docF (i + 1) T) ∧ _ ++ goneT p (i + 1) T = List.map _ (List.filter _ (one i s ++ docF (i + 1) T))
    rw [h1, h2, List.filter_append, List.filter_append, List.map_append]
    unfold one dropS
    cases hh : s.held <;> cases hp : p s <;> simp [hh, hq, hp, sv0]
/-- One cell is asked for: the error's number. -/
def oneE (T : List Sv) (who : Lt) (c : Int) : Int := if inT T.length c = true then (if mayS who (ofT T c) = true then 0 else 12) else 1
def wst (w e : Int) : Int := if e = 1 ∨ w = 0 then e else w
theorem worst_of (T : List Sv) (who : Lt) : ∀ (l : List Int), (l.map (oneE T who)).foldl wst 0 = errT T who l := by
  have aux : ∀ (l : List Int) (w : Int), w = 0 ∨ w = 1 ∨ w = 12 → (l.map (oneE T who)).foldl wst w = if w = 1 then 1 else if hasT T.length l = true then (if w = 12 then 12 else if mayL T who l = true then 0 else 12) else 1 := by
    intro l
    induction l with
    | nil => intro w hw; rcases hw with rfl | rfl | rfl <;> rfl
    | cons c l ih =>
      intro w hw
      have h3 : wst w (oneE T who c) = 0 ∨ wst w (oneE T who c) = 1 ∨ wst w (oneE T who c) = 12 := by
        unfold wst oneE
        rcases hw with rfl | rfl | rfl <;> cases inT T.length c <;> cases mayS who (ofT T c) <;> simp
      rw [List.map_cons, List.foldl_cons, ih _ h3]
      unfold hasT mayL wst oneE
      rw [List.all_cons, List.all_cons]
      rcases hw with rfl | rfl | rfl <;> cases inT T.length c <;> cases mayS who (ofT T c) <;> simp
  intro l
  have := aux l 0 (Or.inl rfl)
  rw [this]
  rfl
/-- Who holds one more holds what it held. -/
theorem may_set {T : List Sv} {who : Lt} {u c : Int} {l : List Int} (h : mayL T who l = true) : mayL (set1 who u T c) who l = true := by
  unfold mayL at h ⊢
  rw [List.all_eq_true] at h ⊢
  intro d hd
  have h1 := h d hd
  unfold set1 ofT at h1 ⊢
  split
  · rename_i h0
    rw [if_pos h0] at h1
    rw [List.getD_eq_getElem?_getD, List.getElem?_set]
    split
    · split
      · simp [mayS, holdS]
      · simp [mayS, sv0]
    · rw [← List.getD_eq_getElem?_getD]
      exact h1
  · rename_i h0
    rw [if_neg h0] at h1
    exact h1
theorem may_sets {who : Lt} {u : Int} {l : List Int} : ∀ (m : List Int) {T : List Sv}, mayL T who l = true → mayL (setsT who u T m) who l = true
  | [], _, h => h
  | _ :: m, _, h => may_sets m (may_set h)
/-- From a slot to the next one, when somebody holds cells. -/
def Kp (who : Lt) (s s' : Sv) : Prop := (s.held = true → s'.held = true ∧ s'.tid = s.tid ∧ s.til ≤ s'.til) ∧ (s.held = false → s'.held = true → s'.tid = who)
theorem Kp.refl (who : Lt) (s : Sv) : Kp who s s := ⟨fun h => ⟨h, rfl, Int.le_refl _⟩, fun h h' => by rw [h] at h'; cases h'⟩
theorem Kp.trans {who : Lt} {a b c : Sv} (h : Kp who a b) (k : Kp who b c) : Kp who a c := ⟨fun e => by
  obtain ⟨h1, h2, h3⟩ := h.1 e
  obtain ⟨k1, k2, k3⟩ := k.1 h1
  exact ⟨k1, k2.trans h2, Int.le_trans h3 k3⟩, fun e e' => by
  cases hb : b.held with
  | true =>
    obtain ⟨_, k2, _⟩ := k.1 hb
    rw [k2]
    exact h.2 e hb
  | false => exact k.2 hb e'⟩
theorem kp_set {T : List Sv} {who : Lt} {u : Int} {k : Nat} (hk : k < T.length) (hm : mayS who (ofT T (k : Int)) = true) (d : Int) : Kp who (ofT T d) (ofT (set1 who u T (k : Int)) d) := by
  have hl : k < (set1 who u T (k : Int)).length := by rw [set1_len]; exact hk
  cases hi : inT T.length d with
  | false =>
    rw [ofT_out hi, ofT_out (by rw [set1_len]; exact hi)]
    exact Kp.refl _ _
  | true =>
    obtain ⟨j, rfl, hj⟩ := inT_nat hi
    rw [ofT_nat hj, ofT_nat (by rw [set1_len]; exact hj)]
    rw [ofT_nat hk] at hm
    unfold set1
    simp only [Int.toNat_natCast, List.getElem_set, ofT_nat hk]
    by_cases e : k = j
    · subst e
      rw [if_pos rfl]
      refine ⟨fun e => ?_, fun _ _ => rfl⟩
      unfold mayS at hm
      rw [e] at hm
      have hm2 : T[k].tid = who := by
        cases hd : decide (T[k].tid = who) with
        | true => exact of_decide_eq_true hd
        | false => rw [hd] at hm; cases hm
      refine ⟨rfl, hm2.symm, ?_⟩
      unfold holdS
      rw [e, if_pos rfl]
      exact Int.le_max_right ..
    · rw [if_neg e]
      exact Kp.refl _ _
theorem kp_sets {who : Lt} {u : Int} : ∀ (l : List Int) {T : List Sv}, hasT T.length l = true → mayL T who l = true → ∀ d, Kp who (ofT T d) (ofT (setsT who u T l) d)
  | [], _, _, _, d => Kp.refl _ _
  | c :: l, T, hh, hm, d => by
    unfold hasT at hh
    rw [List.all_cons, Bool.and_eq_true] at hh
    obtain ⟨k, rfl, hk⟩ := inT_nat hh.1
    have h1 : mayS who (ofT T (k : Int)) = true := List.all_eq_true.1 hm _ List.mem_cons_self
    have h2 : mayL (set1 who u T (k : Int)) who l = true := may_set (List.all_eq_true.2 fun x hx => List.all_eq_true.1 hm x (List.mem_cons_of_mem _ hx))
    exact (kp_set hk h1 d).trans (kp_sets l (by unfold hasT; rw [set1_len]; exact hh.2) h2 d)
theorem kp_hold {T : List Sv} {who : Lt} {u : Int} (l : List Int) (d : Int) : Kp who (ofT T d) (ofT (holdT T who u l) d) := by
  unfold holdT
  split
  · rename_i h
    unfold errT at h
    split at h
    · rename_i h1
      split at h
      · rename_i h2
        exact kp_sets l h1 h2 d
      · omega
    · omega
  · exact Kp.refl _ _
theorem of_drop (p : Sv → Bool) (T : List Sv) (c : Int) : ofT (dropT p T) c = dropS p (ofT T c) := by
  cases hi : inT T.length c with
  | false => rw [ofT_out hi, ofT_out (by rw [dropT_len]; exact hi)]; rfl
  | true =>
    obtain ⟨k, rfl, hk⟩ := inT_nat hi
    rw [ofT_nat hk, ofT_nat (by rw [dropT_len]; exact hk)]
    exact List.getElem_map ..
end Go.Proofs.Ytiobblmagjbhjaa.Lea
