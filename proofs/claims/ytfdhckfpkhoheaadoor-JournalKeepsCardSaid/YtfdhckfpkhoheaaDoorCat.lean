/-
  Texts one behind the other: their bytes; a slice of texts that came in. Conditions: none of its own.
-/
import Derived.Test.YtfdhckfpkhoheaaDoorMem
import Derived.Test.YtfdhckfpkhoheaaDoorBase
import Derived.Test.YtfdhckfpkhoheaaDoorRows
import Derived.OpenShut
namespace Go.Proofs.YtfdhckfpkhoheaaDoor.Mem
open Go.ChangeShapes Go.WideShapes Go.ChangeAt Go.RowKit
set_option maxRecDepth 100000

/-- All bytes of texts, one behind the other. -/
def cat (ss : List ByteArray) : List UInt8 := (ss.map (·.data.toList)).flatten
theorem cat_nil : cat [] = [] := rfl
theorem cat_append (a b : List ByteArray) : cat (a ++ b) = cat a ++ cat b := by unfold cat; simp
theorem cat_one (s : ByteArray) : cat [s] = s.data.toList := by unfold cat; simp
theorem cat_take (ss : List ByteArray) (k : Nat) (h : k < ss.length) : cat (ss.take (k + 1)) = cat (ss.take k) ++ ss[k].data.toList := by
  rw [List.take_succ_eq_append_getElem h, cat_append, cat_one]

theorem cat_take_le (ss : List ByteArray) (k : Nat) : (cat (ss.take k)).length ≤ (cat ss).length := by
  have h : cat ss = cat (ss.take k) ++ cat (ss.drop k) := by rw [← cat_append, List.take_append_drop]
  rw [h, List.length_append]; omega
theorem cellsString : Tryd.prog.cellsOf 9 = 1 := by kernel_rfl
/-- A slice of texts that came in. -/
theorem open_texts {H : Type} {enc : TypeId × Value → H} {W : World} {base : Nat} {ts : List TypeId} {ds : List (DataW H)} {v : Value} {d : DataW H} {p : List MemPlace} {j : Nat}
    (hv : Value.okWide Tryd.prog W .any base 30 v) (h : DataW.Trod enc Tryd.prog W 0 (fun _ => true) true 30 v d p)
    (hsz : (DataW.weightsEach Tryd.prog ts ds).all (· ≤ reachBytes) = true) (ht : ts[j]? = some 30) (hd : ds[j]? = some d) :
    ∃ (A : Option Addr) (ss : List ByteArray) (cap : Nat), v = .slice A ss.length cap ∧ Strs W A ss ∧ ss.length ≤ maxLen ∧ Cap A ss.length cap := by
  obtain ⟨a0, len, cap, rfl⟩ := okWide_slice Tryd.underlying30 hv
  obtain ⟨fuel, hf⟩ := h
  rcases open_strings Tryd.underlying30 Tryd.underlying9 cellsString hf with ⟨hcs, hx⟩ | ⟨a, len', cap', ss, hcs, _, hl, hm, hz, hx, hcell, hws⟩
  · simp [Value.cells] at hcs
    obtain ⟨rfl, rfl, rfl⟩ := hcs
    exact ⟨none, [], 0, rfl, strs_nil _ _, by decide, fun _ => rfl, Nat.le_refl _⟩
  · simp [Value.cells] at hcs
    obtain ⟨rfl, rfl, rfl⟩ := hcs
    simp only [Prod.mk.injEq] at hx
    obtain ⟨rfl, rfl⟩ := hx
    simp only [if_true] at hz
    have hlen : (ss.take len).length = len := by rw [List.length_take]; omega
    refine ⟨some a, ss.take len, cap, by rw [hlen], ?_, by rw [hlen]; omega, (fun h => by cases h), by rw [hlen]; exact hl⟩
    intro k hk
    have hk' : k < ss.length := by omega
    refine ⟨a, rfl, ?_, ?_⟩
    · rw [hcell k hk', List.getElem_take]
      simp [List.getD, hk']
    · have hm' : (DataW.lit (.string (ss.take len)[k].data.toList) : DataW H) ∈ strs (ss.take len) := by
        unfold strs
        exact List.mem_map.2 ⟨_, List.getElem_mem hk, rfl⟩
      have := Base.sized_text hsz ht hd Tryd.underlying30 hm'
      have e : ((ss.take len)[k]).data.toList.length = ((ss.take len)[k]).size := Array.length_toList
      have := reachBytes_lt
      omega
theorem strs_lit (w : World) (ss : List ByteArray) (T : TypeId) (h : ∀ s ∈ ss, s.size ≤ 140737488355328) : Strs (w.alloc (.cells (ss.map Value.string).toArray T)) (some ⟨w.heap.size, 0, none⟩) ss := by
  intro k hk
  refine ⟨_, rfl, ?_, h _ (List.getElem_mem hk)⟩
  have h1 := heap_alloc_new w (.cells (ss.map Value.string).toArray T)
  have h2 := cell_of_row _ _ k _ _ _ h1
  have e : (⟨w.heap.size, 0, none⟩ : Addr).add k = ⟨w.heap.size, k, none⟩ := by
    unfold Addr.add
    by_cases h0 : k = 0
    · subst h0; rfl
    · rw [if_neg h0, Nat.zero_add]
  rw [e, h2]
  simp [hk]
theorem strs_one (w : World) (s : ByteArray) (T : TypeId) (h : s.size ≤ 140737488355328) : Strs (w.alloc (.cells #[.string s] T)) (some ⟨w.heap.size, 0, none⟩) [s] :=
  strs_lit w [s] T (by intro x hx; obtain rfl := List.mem_singleton.1 hx; exact h)
end Go.Proofs.YtfdhckfpkhoheaaDoor.Mem
