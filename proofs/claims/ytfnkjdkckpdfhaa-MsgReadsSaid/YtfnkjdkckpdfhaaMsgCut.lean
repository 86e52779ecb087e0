/-
  Layer 10: a message's bytes with more behind them, or cut, are none. Conditions: none.
-/
import Derived.Test.YtfnkjdkckpdfhaaMsgBack2
namespace Go.Proofs.Ytfnkjdkckpdfhaa.Msg
set_option maxRecDepth 100000
open Go.RowKit Go.Proofs.Ytfnkjdkckpdfhaa.Mem Go.Proofs.Ytfnkjdkckpdfhaa.Item Go.Proofs.Ytfnkjdkckpdfhaa.Wire

theorem wrap_ok (m : Nat) : I64 (IntKind.i64.wrap (m : Int)) := by
  unfold I64
  rw [IntKind.wrap_i64]
  omega
theorem zero_ok : I64 0 := by unfold I64; omega
theorem readTid_ok (s : ByteArray) (b : Bool) : (readTid s b).ok := by
  unfold readTid
  split
  · exact ⟨zero_ok, zero_ok, zero_ok⟩
  · exact ⟨wrap_ok _, wrap_ok _, wrap_ok _⟩
theorem readL_ok (n : Nat) (s : ByteArray) : ∀ x ∈ readL n s, x.ok := by
  induction n with
  | zero => intro x hx; cases hx
  | succ n ih =>
    intro x hx
    rcases List.mem_append.1 hx with h | h
    · exact ih x h
    · obtain rfl := List.mem_singleton.1 h
      simp only [It.ok, itOf]
      exact ⟨wrap_ok _, wrap_ok _, wrap_ok _, wrap_ok _⟩
theorem readN_ok (n : Nat) (s : ByteArray) : ∀ x ∈ readN n s, I64 x := by
  induction n with
  | zero => intro x hx; cases hx
  | succ n ih =>
    intro x hx
    rcases List.mem_append.1 hx with h | h
    · exact ih x h
    · obtain rfl := List.mem_singleton.1 h
      exact wrap_ok _
theorem readItems_ok (s : ByteArray) (b : Bool) : ∀ x ∈ readItems s b, x.ok := by
  unfold readItems
  split
  · intro x hx; cases hx
  · exact readL_ok _ _
theorem readNodes_ok (s : ByteArray) (b : Bool) : ∀ x ∈ readNodes s b, I64 x := by
  unfold readNodes
  split
  · intro x hx; cases hx
  · exact readN_ok _ _
theorem setN_ok {x : Rc} (h : x.ok) (f : Nat) {n : Int} (hn : I64 n) : (setN x f n).ok := by
  obtain ⟨h0, h1, h2, h3, h4, h5, h6, h7, h8, h9⟩ := h
  unfold setN
  repeat' split
  all_goals constructor <;> assumption
theorem step_ok (f : Nat) (t : Rc × ByteArray × Bool) (h : t.1.ok) : (stepF f t).1.ok := by
  unfold stepF
  split
  · exact ⟨h.kind, readTid_ok _ _, h.items, h.nodes, h.cell, h.node, h.num, h.hop, h.version, h.value⟩
  split
  · exact ⟨h.kind, h.tid, readItems_ok _ _, h.nodes, h.cell, h.node, h.num, h.hop, h.version, h.value⟩
  split
  · exact ⟨h.kind, h.tid, h.items, readNodes_ok _ _, h.cell, h.node, h.num, h.hop, h.version, h.value⟩
  split
  · exact ⟨h.kind, h.tid, h.items, h.nodes, h.cell, h.node, h.num, h.hop, h.version, h.value⟩
  · exact setN_ok h _ (wrap_ok _)
theorem fold_ok (l : List Int) : ∀ (t : Rc × ByteArray × Bool), t.1.ok → (foldF l t).1.ok := by
  induction l with
  | nil => intro t h; exact h
  | cons a l ih => intro t h; exact ih _ (step_ok _ _ h)
theorem dec_ok {s : ByteArray} {r : Rc} (h : dec s = some r) : r.ok := by
  unfold dec at h
  split at h
  · rw [← Option.some.inj h]
    refine fold_ok _ _ ⟨?_, ⟨zero_ok, zero_ok, zero_ok⟩, fun x hx => (by cases hx), fun x hx => (by cases hx), zero_ok, zero_ok, zero_ok, zero_ok, zero_ok, zero_ok⟩
    have := num_lt s 1 1 (Nat.le_refl _)
    rw [show (256 : Nat) ^ 1 = 256 from rfl] at this
    show I64 ((Wire.num s 1 : Nat) : Int)
    unfold I64
    omega
  · cases h
theorem dec_more (r : Rc) (h : right r = true) (ok : r.ok) (m : List UInt8) : dec (bs (bytesR r ++ m)) = if m = [] then some r else none := by
  have hk := right_kind h
  have e : bytesR r ++ m = [UInt8.ofNat r.kind.toNat] ++ (bodyB r (fl r.kind) ++ m) := by unfold bytesR; simp
  have l1 : ([UInt8.ofNat r.kind.toNat] : List UInt8).length = 1 := rfl
  have hn : Wire.num (bs (bytesR r ++ m)) 1 = r.kind.toNat := by
    rw [e, num_bs _ _ l1]
    show 0 * 256 + (UInt8.ofNat r.kind.toNat).toNat = _
    rw [UInt8.toNat_ofNat']
    omega
  have h0 : dec0 (bs (bytesR r ++ m)) = (r, bs m, false) := by
    unfold dec0
    rw [hn, show ((r.kind.toNat : Nat) : Int) = r.kind by omega, e, rest_bs _ _ l1, brk_bs _ _ _ l1, fold_put ok (right_few h), right_copy h]
  unfold dec
  rw [h0]
  simp only
  by_cases hm : m = []
  · subst hm
    rw [if_pos ⟨rfl, h⟩, if_pos rfl]
  · rw [if_neg hm, if_neg]
    rintro ⟨h1, _⟩
    unfold endV at h1
    rw [if_neg (by decide)] at h1
    by_cases hb : bs m = nil
    · have := congrArg (fun x => x.data.toList) hb
      simp only [bs_list] at this
      exact hm this
    · rw [if_neg hb] at h1
      cases h1
theorem dec_enc (r : Rc) (h : right r = true) (ok : r.ok) : dec (bs (bytesR r)) = some r := by
  have := dec_more r h ok []
  rwa [List.append_nil, if_pos rfl] at this
theorem dec_cut (r : Rc) (h : right r = true) (ok : r.ok) : dec (bs (bytesR r).dropLast) = none := by
  cases hd : dec (bs (bytesR r).dropLast) with
  | none => rfl
  | some x =>
    obtain ⟨rx, ex⟩ := dec_back hd
    have okx := dec_ok hd
    have el : bytesR x = (bytesR r).dropLast := by
      have := congrArg (fun x => x.data.toList) ex
      simpa only [bs_list] using this
    have hne : bytesR r ≠ [] := by unfold bytesR; exact List.cons_ne_nil _ _
    have e2 : bytesR x ++ [(bytesR r).getLast hne] = bytesR r := by rw [el]; exact List.dropLast_concat_getLast hne
    have h1 := dec_more x rx okx [(bytesR r).getLast hne]
    rw [e2, dec_enc r h ok, if_neg (List.cons_ne_nil _ _)] at h1
    cases h1
end Go.Proofs.Ytfnkjdkckpdfhaa.Msg
