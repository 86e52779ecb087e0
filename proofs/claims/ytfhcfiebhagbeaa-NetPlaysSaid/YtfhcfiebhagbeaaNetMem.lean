/-
  Layer 11: packets, and a net in memory. Conditions: none.
-/
import Derived.Test.YtfhcfiebhagbeaaSls
import Derived.Test.YtfhcfiebhagbeaaMaps
import Derived.Lib.Hide
namespace Go.Proofs.Ytfhcfiebhagbeaa.Net
set_option maxRecDepth 100000
open Go.RowKit Go.Deep Go.Proofs.Ytfhcfiebhagbeaa.Mem

def I64 (n : Int) : Prop := -9223372036854775808 ≤ n ∧ n ≤ 9223372036854775807
theorem i64_wf {x : Int} (h : (Lit.int .i64 x).wf = true) : I64 x := by
  have h1 : IntKind.i64.min = -9223372036854775808 := rfl
  have h2 : IntKind.i64.max = 9223372036854775807 := rfl
  simp only [Lit.wf, Bool.and_eq_true, decide_eq_true_eq, h1, h2] at h
  exact h
theorem wf_i64 {x : Int} (h : I64 x) : (Lit.int .i64 x).wf = true := by
  have h1 : IntKind.i64.min = -9223372036854775808 := rfl
  have h2 : IntKind.i64.max = 9223372036854775807 := rfl
  simp only [Lit.wf, Bool.and_eq_true, decide_eq_true_eq, h1, h2]
  exact h
theorem ret_int {a b : Int} (h : a = b) : Ending.returned (.int .i64 b) = .returned (.int .i64 a) := by rw [h]
theorem ret_bool {a b : Bool} (h : a = b) : Ending.returned (.bool b) = .returned (.bool a) := by rw [h]
/-- A packet. -/
structure Pk where
  src : Int
  dst : Int
  bytes : ByteArray
  spoilt : Bool
deriving DecidableEq
def Pk.vals (p : Pk) : List Value := [.int .i64 p.src, .int .i64 p.dst, .string p.bytes, .bool p.spoilt]
def Pk.val (p : Pk) : Value := .agg #[.int .i64 p.src, .int .i64 p.dst, .string p.bytes, .bool p.spoilt]
structure Pk.ok (p : Pk) : Prop where
  src : I64 p.src
  dst : I64 p.dst
  len : p.bytes.size ≤ 140737488351232
def pk0 : Pk := ⟨0, 0, ⟨#[]⟩, false⟩
theorem pk_one (p : Pk) : ∀ u ∈ p.vals, u.oneCell' = true := fun u hu => by
  unfold Pk.vals at hu
  simp only [List.mem_cons, List.not_mem_nil, or_false] at hu
  rcases hu with rfl | rfl | rfl | rfl <;> rfl
theorem fit_pks (l : List Pk) : Fit 4 (l.map Pk.vals) := ⟨fun v hv => by obtain ⟨x, _, rfl⟩ := List.mem_map.1 hv; rfl, fun v hv => by obtain ⟨x, _, rfl⟩ := List.mem_map.1 hv; exact pk_one x⟩
theorem el_pk : Elem 31 39 (.agg #[.int .i64 0, .int .i64 0, .string ⟨#[]⟩, .bool false]) 4 40 := ⟨Try.underlying31, by kernel_rfl, rfl, by decide, by decide⟩
theorem val_inj {p q : Pk} (h : p.val = q.val) : p = q := by
  obtain ⟨a, b, c, d⟩ := p
  obtain ⟨a', b', c', d'⟩ := q
  unfold Pk.val at h
  simpa using h
/-- A net. -/
structure Nt where
  nodes : Int
  cut : Int → Int → Bool
  fl : List Pk
/-- The ways that are cut, as a map's entries. -/
def cutR (cut : Int → Int → Bool) (k v : Value) : Prop := ∃ a b, k = .agg #[.int .i64 a, .int .i64 b] ∧ v = .agg #[] ∧ cut a b = true
theorem way_keyed : Go.Maps.Keyed Try.prog 72 := Go.Maps.Keyed.of_law (deep_law_laid Base.laidOut (m := 3) (by omega) (of_decide_eq_true (by kernel_rfl)) (by kernel_rfl) (by kernel_rfl))
theorem pk_keyed : Go.Maps.Keyed Try.prog 39 := Go.Maps.Keyed.of_law (deep_law_laid Base.laidOut (m := 3) (by omega) (of_decide_eq_true (by kernel_rfl)) (by kernel_rfl) (by kernel_rfl))
/-- A net that is there: its struct lies in block b, its map in block m, its packets at A. -/
structure NetAt (base : Nat) (w : World) (b m : Nat) (N : Nt) (A : Option Addr) (c : Nat) : Prop where
  cel : Cells w b 66 [.int .i64 N.nodes, .map (some m), .slice A N.fl.length c]
  row : w.ownsRow base 39 4 (.slice A N.fl.length c) N.fl.length (N.fl.map Pk.vals).flatten
  map : ∃ n, KM Try.prog 72 w m n (cutR N.cut)
  low : base ≤ b ∧ base ≤ m
  bm : b ≠ m
  bA : blk A ≠ some b
  mA : blk A ≠ some m
  nodes : 1 ≤ N.nodes ∧ N.nodes ≤ 16
  len : N.fl.length ≤ 256
  pks : ∀ p ∈ N.fl, p.ok
/-- What a net's calls may write into. -/
def foot (b m : Nat) (A : Option Addr) (k : Nat) : Prop := k = b ∨ k = m ∨ some k = blk A
/-- What a net's call does. -/
def NStep (base b m : Nat) (A : Option Addr) (w : World) (N' : Nt) (w' : World) : Prop :=
  ∃ A' c', NetAt base w' b m N' A' c' ∧ Only (foot b m A) w w' ∧ ∀ k, some k = blk A' → some k = blk A ∨ w.heap.size ≤ k
section
variable {base b m c : Nat} {w w1 w' : World} {N N' : Nt} {A : Option Addr}
theorem NetAt.only {S : Nat → Prop} (h : NetAt base w b m N A c) (ho : Only S w w') (hn : ∀ k, foot b m A k → ¬ S k) : NetAt base w' b m N A c := by
  obtain ⟨n, hk⟩ := h.map
  exact ⟨cells_only h.cel ho (hn b (Or.inl rfl)), row_only h.row ho fun k hk => hn k (Or.inr (Or.inr (by rw [own_blk] at hk; exact hk.symm))), ⟨n, hk.only ho (hn m (Or.inr (Or.inl rfl)))⟩, h.low, h.bm, h.bA, h.mA, h.nodes, h.len, h.pks⟩
theorem NetAt.later (h : NetAt base w b m N A c) (hb : Below w.heap.size w w') : NetAt base w' b m N A c := h.only (Only.of_below (S := fun _ => False) hb) fun _ _ e => e
theorem NetAt.lt (h : NetAt base w b m N A c) {k : Nat} (hk : foot b m A k) : base ≤ k ∧ k < w.heap.size := by
  rcases hk with rfl | rfl | e
  · exact ⟨h.low.1, h.cel.lt⟩
  · obtain ⟨n, hk⟩ := h.map
    exact ⟨h.low.2, hk.lt⟩
  · exact h.row.lt k (by rw [own_blk]; exact e.symm)
theorem NStep.same (h : NetAt base w b m N A c) (hb : Below w.heap.size w w') : NStep base b m A w N w' := ⟨A, c, h.later hb, Only.of_below hb, fun _ e => Or.inl e⟩
theorem NStep.before (hb : Below w.heap.size w w1) (h : NStep base b m A w1 N w') : NStep base b m A w N w' := by
  obtain ⟨A', c', k1, k2, k3⟩ := h
  exact ⟨A', c', k1, (Only.of_below hb).trans k2 fun _ _ e => e, fun k e => (k3 k e).imp_right fun h => Nat.le_trans hb.size h⟩
theorem NStep.after (h : NStep base b m A w N w1) (hb : Below w1.heap.size w1 w') : NStep base b m A w N w' := by
  obtain ⟨A', c', k1, k2, k3⟩ := h
  exact ⟨A', c', k1.later hb, k2.trans (S' := fun _ => False) (Only.of_below hb) fun _ _ e => e.elim, k3⟩
theorem NStep.next {A1 : Option Addr} (ho : Only (foot b m A) w w1) (hg : ∀ k, some k = blk A1 → some k = blk A ∨ w.heap.size ≤ k) (h : NStep base b m A1 w1 N' w') : NStep base b m A w N' w' := by
  obtain ⟨A', c', k1, k2, k3⟩ := h
  refine ⟨A', c', k1, ho.trans k2 fun k hk e => ?_, fun k e => ?_⟩
  · rcases e with e | e | e
    · exact Or.inl e
    · exact Or.inr (Or.inl e)
    · exact Or.inr (Or.inr ((hg k e).resolve_right (by omega)))
  · rcases k3 k e with e | e
    · exact hg k e
    · exact Or.inr (Nat.le_trans ho.size e)
theorem NStep.below (h : NStep base b m A w N' w') (ho : NetAt base w b m N A c) (hb : base ≤ w.heap.size) : Below base w w' := by
  obtain ⟨A', c', _, k2, _⟩ := h
  exact k2.below hb fun k e => (ho.lt e).1
end
end Go.Proofs.Ytfhcfiebhagbeaa.Net
