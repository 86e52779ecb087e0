/-
  Bytes of which up to four side by side are turned, in memory (laws of layers 1 and 3). Conditions: none.
-/
import Derived.Test.YtcbmbajlmcoldaaDoorSum
import Derived.Test.YtcbmbajlmcoldaaDoorCrcTellMath
namespace Go.Proofs.YtcbmbajlmcoldaaDoor.Crc
open Go.RowKit Go.Proofs.YtcbmbajlmcoldaaDoor.Mem

/-- The byte by which the one at place at_ + k is turned. -/
def xb (y : BitVec 32) (k : Nat) : UInt8 := UInt8.ofNat (y.toNat / 2 ^ (8 * k))
/-- The bytes by which the first k are turned. -/
def xbs (y : BitVec 32) (k : Nat) : List UInt8 := (List.range k).map (xb y)

/-- Is one of the first k bytes turned? -/
def chg (y : BitVec 32) : Nat → Bool
  | 0 => false
  | k + 1 => chg y k || (xb y k != 0)
theorem chg_iff (y : BitVec 32) (k : Nat) : chg y k = false ↔ ∀ x ∈ xbs y k, x = 0 := by
  induction k with
  | zero => simp [chg, xbs]
  | succ k ih =>
    rw [chg, Bool.or_eq_false_iff, ih]
    have e : xbs y (k + 1) = xbs y k ++ [xb y k] := by unfold xbs; rw [List.range_succ, List.map_append]; rfl
    rw [e]
    constructor
    · rintro ⟨h1, h2⟩ x hx
      rcases List.mem_append.1 hx with hx | hx
      · exact h1 x hx
      · rw [List.mem_singleton.1 hx]; simpa using h2
    · intro h
      exact ⟨fun x hx => h x (List.mem_append_left _ hx), by simpa using h (xb y k) (List.mem_append_right _ (List.mem_singleton.2 rfl))⟩
theorem xbs_length (y : BitVec 32) (k : Nat) : (xbs y k).length = k := by unfold xbs; simp
theorem xbs_succ (y : BitVec 32) (k : Nat) : xbs y (k + 1) = xbs y k ++ [xb y k] := by unfold xbs; rw [List.range_succ, List.map_append]; rfl
theorem turned_zero (l : List UInt8) (at_ : Nat) (y : BitVec 32) : turned l at_ (xbs y 0) = l := by unfold turned xbs; simp
theorem turned_length (l : List UInt8) (at_ k : Nat) (y : BitVec 32) (h : at_ + k ≤ l.length) : (turned l at_ (xbs y k)).length = l.length := by
  unfold turned
  simp [xbs_length]
  omega
theorem turned_next (l : List UInt8) (at_ k : Nat) (y : BitVec 32) (h : at_ + k < l.length) : (turned l at_ (xbs y k))[at_ + k]? = some l[at_ + k] := by
  unfold turned
  rw [List.getElem?_append_right (by simp [xbs_length]; omega)]
  simp [xbs_length]
  have e : at_ + k - (min at_ l.length + min k (l.length - at_)) = 0 := by omega
  rw [e]
  simp [h]
theorem turned_succ (l : List UInt8) (at_ k : Nat) (y : BitVec 32) (h : at_ + k < l.length) : turned l at_ (xbs y (k + 1)) = (turned l at_ (xbs y k)).set (at_ + k) (l[at_ + k] ^^^ xb y k) := by
  unfold turned
  rw [xbs_succ, List.length_append, xbs_length, List.length_singleton]
  have e1 : (l.drop at_).take (k + 1) = (l.drop at_).take k ++ [l[at_ + k]] := by
    rw [List.take_succ_eq_append_getElem (by simp; omega)]
    simp
  have e2 : l.drop (at_ + k) = l[at_ + k] :: l.drop (at_ + k + 1) := List.drop_eq_getElem_cons h
  have hlen : ((l.drop at_).take k).length = (xbs y k).length := by simp [xbs_length]; omega
  rw [e1, e2, List.zipWith_append hlen]
  have hl2 : (l.take at_ ++ List.zipWith (· ^^^ ·) ((l.drop at_).take k) (xbs y k)).length = at_ + k := by simp [xbs_length]; omega
  rw [List.set_append_right _ _ (by omega), hl2, Nat.sub_self]
  simp [Nat.add_assoc]

/-- Block g is a row of bytes, of which l are the first, marked behind its end. -/
def Row (wr : World) (g N : Nat) (l : List UInt8) : Prop := ∃ C : Array Value, wr.heap[g]? = some (.cells C 5 (N, N + 1)) ∧ C.size = N ∧ l.length ≤ N ∧ ∀ (j : Nat) (u : UInt8), l[j]? = some u → C[j]? = some (Value.int .u8 (u.toNat : Int))
theorem Row.cell {wr : World} {g N : Nat} {l : List UInt8} (h : Row wr g N l) {j : Nat} {u : UInt8} (hu : l[j]? = some u) : wr.cell? ⟨g, j, none⟩ = some (.int .u8 (u.toNat : Int)) := by
  obtain ⟨C, h1, _, _, h4⟩ := h
  rw [cell_of_row _ _ _ _ _ _ h1]
  exact h4 j u hu
theorem Row.frozen {wr : World} {g N : Nat} {l : List UInt8} (h : Row wr g N l) {j : Nat} (hj : j < l.length) : wr.frozen? ⟨g, j, none⟩ = false := by
  obtain ⟨C, h1, _, h3, _⟩ := h
  simp [World.frozen?, h1]
  omega
theorem Row.set_ {wr : World} {g N : Nat} {l : List UInt8} (h : Row wr g N l) (j : Nat) (u : UInt8) : Row (wr.setCell ⟨g, j, none⟩ (.int .u8 (u.toNat : Int))) g N (l.set j u) := by
  obtain ⟨C, h1, h2, h3, h4⟩ := h
  refine ⟨C.setIfInBounds j (.int .u8 (u.toNat : Int)), ?_, by simpa using h2, by simpa using h3, ?_⟩
  · simp [World.setCell, Array.getElem?_modify, h1]
  · intro i v hv
    rw [List.getElem?_set] at hv
    rw [Array.getElem?_setIfInBounds]
    by_cases e : j = i
    · subst e
      simp only [if_true] at hv ⊢
      split at hv
      · injection hv with hv
        subst hv
        rw [if_pos (by omega)]
      · cases hv
    · simp only [if_neg e] at hv ⊢
      exact h4 i v hv
theorem Row.later {wr wr' : World} {g N B : Nat} {l : List UInt8} (h : Row wr g N l) (hb : Below B wr wr') (hg : g < B) : Row wr' g N l := by
  obtain ⟨C, h1, h2, h3, h4⟩ := h
  exact ⟨C, (hb.block g hg).trans h1, h2, h3, h4⟩

theorem Tab_alloc {w : World} (h : Tab w) (o : Obj) : Tab (w.alloc o) := h.later ((Below.refl _ _).alloc (Nat.le_refl _) o)
theorem Tab_drew {w : World} (h : Tab w) : Tab w.drew := h
theorem back {w : World} {g N n cap : Nat} {l : List UInt8} (h : Row w g N l) (hn : l.length = n) :
    (convert 41 9 (.slice (some ⟨g, 0, none⟩) n cap)).run Tryd.prog w = .ok (.string ⟨l.toArray⟩) w := by
  subst hn
  refine run_convert_bytes_back w 41 9 5 ⟨g, 0, none⟩ cap l Tryd.underlying41 Tryd.underlying5 Tryd.underlying9 ?_
  intro j hj
  have e : (⟨g, 0, none⟩ : Addr).add j = ⟨g, j, none⟩ := by
    unfold Addr.add
    by_cases h0 : j = 0
    · subst h0; rfl
    · rw [if_neg h0, Nat.zero_add]
  rw [e]
  exact h.cell (List.getElem?_eq_getElem hj)
theorem row_lt {w : World} {g N : Nat} {l : List UInt8} (h : Row w g N l) : g < w.heap.size := by
  obtain ⟨C, h1, _⟩ := h
  rcases Nat.lt_or_ge g w.heap.size with hlt | hge
  · exact hlt
  · rw [Array.getElem?_eq_none hge] at h1; cases h1

theorem bits_xor8 (a b : UInt8) : bits .xor .u8 (a.toNat : Int) (b.toNat : Int) = ((a ^^^ b).toNat : Int) := by
  rw [u8_xor_nat _ _ a.toNat_lt b.toNat_lt, UInt8.toNat_xor]

theorem xb_is (y : BitVec 32) (k : Nat) : ((y.toNat : Int) / 2 ^ (8 * k) % 256) = ((xb y k).toNat : Int) := by
  unfold xb
  have e : (UInt8.ofNat (y.toNat / 2 ^ (8 * k))).toNat = y.toNat / 2 ^ (8 * k) % 256 := by rw [UInt8.toNat_ofNat']
  rw [e]
  rfl
theorem xb_test (y : BitVec 32) (k : Nat) : (((xb y k).toNat : Int) != 0) = (xb y k != 0) := by
  by_cases h : xb y k = 0
  · rw [h]; rfl
  · have h2 : ((xb y k).toNat : Int) ≠ 0 := fun e => h (UInt8.toNat_inj.1 (Int.ofNat_inj.1 e))
    rw [bne_iff_ne.2 h2, bne_iff_ne.2 h]
end Go.Proofs.YtcbmbajlmcoldaaDoor.Crc
