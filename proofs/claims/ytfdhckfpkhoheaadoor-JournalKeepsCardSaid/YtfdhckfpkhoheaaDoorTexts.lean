/-
  A row of the call's own that holds texts: how it grows, and how it is read. Conditions: none.
-/
import Derived.Test.YtfdhckfpkhoheaaDoorOnly
import Derived.Test.YtfdhckfpkhoheaaDoorRows
import Derived.ProofKit
import Derived.WalkKit
namespace Go.Proofs.YtfdhckfpkhoheaaDoor.Mem
open Go.RowKit

theorem infoString : (Tryd.prog.info? 9).map (fun i => (i.zero, i.size, i.bytes)) = some (some (.string ⟨#[]⟩), 1, 16) := by kernel_rfl
/-- A row of the call's own that holds these texts. -/
def Txt (w : World) (base : Nat) (v : Value) (ss : List ByteArray) : Prop := w.ownsRow base 9 1 v ss.length (ss.map Value.string)
theorem txt_nil (w : World) (base : Nat) : Txt w base (.slice none 0 0) [] := World.ownsRow_nil _ _ _ _
theorem txt_new (w : World) (base : Nat) (hb : base ≤ w.heap.size) : Txt (w.alloc (.cells #[] 9)) base (.slice (some ⟨w.heap.size, 0, none⟩) 0 0) [] := World.ownsRow_made w #[] 0 hb (Nat.zero_le _) rfl
theorem Txt.opened {w : World} {base : Nat} {v : Value} {ss : List ByteArray} (h : Txt w base v ss) (hz : ∀ s ∈ ss, s.size ≤ 140737488355328) : ∃ A cap, v = .slice A ss.length cap ∧ Strs w A ss := by
  have h0 := h
  rcases h.2 with ⟨rfl, hl⟩ | ⟨g, cap, cur, rfl, _⟩
  · have : ss = [] := List.eq_nil_of_length_eq_zero hl
    subst this
    exact ⟨none, 0, rfl, strs_nil _ _⟩
  · refine ⟨some ⟨g, 0, none⟩, cap, rfl, fun k hk => ⟨_, rfl, ?_, hz _ (List.getElem_mem hk)⟩⟩
    exact h0.cells rfl k _ (by rw [List.getElem?_map, List.getElem?_eq_getElem hk]; rfl)
theorem Txt.later {w w' : World} {base : Nat} {v : Value} {ss : List ByteArray} (h : Txt w base v ss) (hb : Below w.heap.size w w') : Txt w' base v ss := row_only (S := fun _ => False) h (Only.of_below hb) fun _ _ h => h
theorem Txt.slice {w : World} {base : Nat} {v : Value} {ss : List ByteArray} (h : Txt w base v ss) : ∃ A k c, v = .slice A k c := by
  rcases h.2 with ⟨rfl, _⟩ | ⟨g, cap, cur, rfl, _⟩
  · exact ⟨_, _, _, rfl⟩
  · exact ⟨_, _, _, rfl⟩

/-- One text more behind an own row, at the operation: the text lies in a new block of its own. -/
theorem wpList_text {w : World} {ops : Array Oper} {rest : List Oper} {o : Oper} {a : Act} {Q : Exit → Act → World → Prop} (hgd : o.guard = none) (s x : Operand)
    (ho : o.op = .call { callee := .builtin .append, args := #[s, x], argTypes := #[30, 30] })
    (base : Nat) (v : Value) (ss : List ByteArray) (t : ByteArray) (ad : Addr) (c : Nat) (hs : a.eval s = v) (hown : Txt w base v ss) (hx : a.eval x = .slice (some ad) 1 c) (hc : w.cell? ad = some (.string t)) (hn : ss.length ≤ 1000000000) (hb : base ≤ w.heap.size)
    (h : ∀ v' w', Txt w' base v' (ss ++ [t]) → w.grownBy w' v.ownBlock → (v'.ownBlock = v.ownBlock ∨ v'.ownBlock = some w.heap.size) → wpList Tryd.prog ops Q rest (a.put o.dst v') w') : wpList Tryd.prog ops Q (o :: rest) a w := by
  obtain ⟨i0, hi, hz0, hz1, hz2⟩ := info_parts infoString
  refine wpList_append_own_at _ hgd s x 30 ho base 9 i0 (.string ⟨#[]⟩) 1 16 Tryd.underlying30 hi hz0 hz1 hz2 rfl (by decide) v ss.length (ss.map Value.string) hs hown ad 1 c [.string t] hx rfl ?_ ?_ (by unfold maxLen; omega) (by omega) hb ?_
  · intro j u hu
    match j, hu with
    | 0, hu =>
      simp at hu
      subst hu
      simpa [Addr.add] using hc
  · intro u hu
    obtain rfl := List.mem_singleton.1 hu
    rfl
  · intro v' w' h1 h2 _ h4
    refine h v' w' ?_ h2 h4
    unfold Txt
    rw [List.length_append, List.map_append]
    exact h1
end Go.Proofs.YtfdhckfpkhoheaaDoor.Mem
