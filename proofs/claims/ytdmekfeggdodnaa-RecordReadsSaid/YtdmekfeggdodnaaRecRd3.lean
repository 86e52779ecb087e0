/-
  Layer 7: the document's answer reads a record. Conditions: none.
-/
import Derived.Test.YtdmekfeggdodnaaRecRf
import Derived.Test.YtdmekfeggdodnaaRecSet
import Derived.Test.YtdmekfeggdodnaaRecRefR
namespace Go.Proofs.Ytdmekfeggdodnaa.Rec
set_option maxRecDepth 100000
open Go.RowKit Go.Proofs.Ytdmekfeggdodnaa.Mem Go.Proofs.Ytdmekfeggdodnaa.Item Go.Proofs.Ytdmekfeggdodnaa.Wire

/-- The numbers of a kind, read one behind the other. -/
def numN (s : ByteArray) (l : List Int) (t : Rc × Nat × Bool) : Rc × Nat × Bool := l.foldl (fun t f => (setN t.1 (f - 1).toNat (inV 3 s t.2.1 t.2.2), inA 3 s t.2.1 t.2.2, inB 3 s t.2.1 t.2.2)) t
theorem numN_step (s : ByteArray) (l : List Int) (k f : Nat) (h : k < l.length) (e : l[k] = ((f + 1 : Nat) : Int)) (t : Rc × Nat × Bool) :
    numN s (l.take (k + 1)) t = (setN (numN s (l.take k) t).1 f (inV 3 s (numN s (l.take k) t).2.1 (numN s (l.take k) t).2.2), inA 3 s (numN s (l.take k) t).2.1 (numN s (l.take k) t).2.2, inB 3 s (numN s (l.take k) t).2.1 (numN s (l.take k) t).2.2) := by
  unfold numN
  rw [List.take_succ_eq_append_getElem h, List.foldl_append, e, List.foldl_cons, List.foldl_nil, show (((f + 1 : Nat) : Int) - 1).toNat = f by omega]
/-- A record of which only the kind and the numbers are there. -/
def Plain (x : Rc) (k : Int) : Prop := x.kind = k ∧ x.tid = ⟨0, 0, 0⟩ ∧ x.items = [] ∧ x.nodes = [] ∧ x.yes = false
theorem plain_set {x : Rc} {k : Int} (h : Plain x k) (f : Nat) (n : Int) : Plain (setN x f n) k := by
  obtain ⟨s0, s1, s2, s3, s4⟩ := setN_rest x f n
  exact ⟨s0.trans h.1, s1.trans h.2.1, s2.trans h.2.2.1, s3.trans h.2.2.2.1, s4.trans h.2.2.2.2⟩
theorem inA_le (k : Nat) (s : ByteArray) (a : Nat) (b : Bool) (h : a ≤ s.size) : inA k s a b ≤ s.size := by
  unfold inA
  split
  · rename_i hc
    unfold okK at hc
    simp only [Bool.and_eq_true, Bool.not_eq_true', decide_eq_false_iff_not] at hc
    have := left_size s a h
    have h1 := hc.2.1
    have := sz_pos k
    omega
  · exact h
set_option maxHeartbeats 2000000 in
theorem refFields_out (k : Int) (w : World) (hk : ¬ (1 ≤ k ∧ k ≤ 12)) :
    Calls Try.prog 51 #[.int .i64 k] w fun e w' => ∃ A c, e = .returned (.slice A (rl k).length c) ∧ Nums w' A (rl k) ∧ (∀ b off, A = some ⟨b, off, none⟩ → w.heap.size ≤ b) ∧ Below w.heap.size w w' := by
  have hf : rl k = [] := by
    unfold rl
    rw [if_neg (by omega), if_neg (by omega), if_neg (by omega), if_neg (by omega), if_neg (by omega), if_neg (by omega)]
  rw [hf]
  clear hf
  by_cases h1 : k < 1
  · clear hk
    go_enter Try.func51, Try.ntmps51
    go_wp2
    go_returns
    exact ⟨none, 0, rfl, nums_nil _ _, (fun b off e => by cases e), by go_grown⟩
  · have h2 : 12 < k := by omega
    clear hk
    go_enter Try.func51, Try.ntmps51
    go_wp2
    go_returns
    exact ⟨none, ⟨0, rfl⟩, nums_nil _ _, (fun b off e => by cases e), by go_grown⟩
theorem refFields_all (k : Int) (w : World) :
    Calls Try.prog 51 #[.int .i64 k] w fun e w' => ∃ A c, e = .returned (.slice A (rl k).length c) ∧ Nums w' A (rl k) ∧ (∀ b off, A = some ⟨b, off, none⟩ → w.heap.size ≤ b) ∧ Below w.heap.size w w' := by
  by_cases hk : 1 ≤ k ∧ k ≤ 12
  · exact refFields_any k w hk
  · exact refFields_out k w hk
end Go.Proofs.Ytdmekfeggdodnaa.Rec
