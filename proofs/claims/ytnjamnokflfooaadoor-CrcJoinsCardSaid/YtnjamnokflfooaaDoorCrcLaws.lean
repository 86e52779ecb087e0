/-
  What the laws of layer 1 share: the table as the row lists it, a slice of texts opened, a world for the witness. Conditions: none of its own.
-/
import Derived.Test.YtnjamnokflfooaaDoorCrcWalks
import Derived.Test.YtnjamnokflfooaaDoorBase
import Derived.Deep.DeepHandedRow
import Derived.Lib.LaidTab
namespace Go.Proofs.YtnjamnokflfooaaDoor.Crc
open Go.ChangeShapes Go.WideShapes Go.ChangeAt Go.RowKit

theorem gTabType : (Tryd.prog.globals[0]?).map (·.type) = some 36 := by kernel_rfl
theorem cellsTab : Tryd.prog.cellsOf 36 = 16 := by kernel_rfl
theorem cellsU32 : Tryd.prog.cellsOf 25 = 1 := by kernel_rfl
theorem cellsString : Tryd.prog.cellsOf 9 = 1 := by kernel_rfl

theorem table {W : World} (h : laidMetH Tryd.prog [("remuda/crc.halves", Rows.laid_remuda_crc_halves)] W) : Tab W :=
  tab_of (Lib.tabIs_of_head (rest := []) gTab gTabType Tryd.underlying36 Tryd.underlying25 cellsU32 cellsTab h)

/-- A slice of texts that came in. -/
theorem open_texts {H : Type} {enc : TypeId × Value → H} {W : World} {base : Nat} {ts : List TypeId} {ds : List (DataW H)} {v : Value} {d : DataW H} {p : List MemPlace} {j : Nat}
    (hv : Value.okWide Tryd.prog W .any base 22 v) (h : DataW.Trod enc Tryd.prog W 0 (fun _ => true) true 22 v d p)
    (hsz : (DataW.weightsEach Tryd.prog ts ds).all (· ≤ reachBytes) = true) (ht : ts[j]? = some 22) (hd : ds[j]? = some d) :
    ∃ (A : Option Addr) (ss : List ByteArray) (cap : Nat), v = .slice A ss.length cap ∧ Strs W A ss ∧ ss.length ≤ maxLen ∧ (A = none → cap = 0) := by
  obtain ⟨a0, len, cap, rfl⟩ := okWide_slice Tryd.underlying22 hv
  obtain ⟨fuel, hf⟩ := h
  rcases open_strings Tryd.underlying22 Tryd.underlying9 cellsString hf with ⟨hcs, hx⟩ | ⟨a, len', cap', ss, hcs, _, hl, hm, hz, hx, hcell, hws⟩
  · simp [Value.cells] at hcs
    obtain ⟨rfl, rfl, rfl⟩ := hcs
    exact ⟨none, [], 0, rfl, strs_nil _ _, by decide, fun _ => rfl⟩
  · simp [Value.cells] at hcs
    obtain ⟨rfl, rfl, rfl⟩ := hcs
    simp only [Prod.mk.injEq] at hx
    obtain ⟨rfl, rfl⟩ := hx
    simp only [if_true] at hz
    have hlen : (ss.take len).length = len := by rw [List.length_take]; omega
    refine ⟨some a, ss.take len, cap, by rw [hlen], ?_, by rw [hlen]; omega, fun h => by cases h⟩
    intro k hk
    have hk' : k < ss.length := by omega
    refine ⟨a, rfl, ?_, ?_⟩
    · rw [hcell k hk', List.getElem_take]
      simp [List.getD, hk']
    · have hm' : (DataW.lit (.string (ss.take len)[k].data.toList) : DataW H) ∈ strs (ss.take len) := by
        unfold strs
        exact List.mem_map.2 ⟨_, List.getElem_mem hk, rfl⟩
      have := Base.sized_text hsz ht hd Tryd.underlying22 hm'
      have e : ((ss.take len)[k]).data.toList.length = ((ss.take len)[k]).size := Array.length_toList
      have := reachBytes_lt
      omega

/-- A number of 32 bits. -/
theorem u32_of {x : Int} (h : (Lit.int .u32 x).wf = true) : ∃ c : BitVec 32, x = (c.toNat : Int) := by
  have h1 : IntKind.u32.min = 0 := rfl
  have h2 : IntKind.u32.max = 4294967295 := rfl
  simp only [Lit.wf, Bool.and_eq_true, decide_eq_true_eq, h1, h2] at h
  refine ⟨BitVec.ofNat 32 x.toNat, ?_⟩
  rw [BitVec.toNat_ofNat]
  omega

/-- A WORLD FOR THE WITNESS: the settled one, the table holding what its initialiser lays. -/
noncomputable def laidWorld (os : Os) : World :=
  { World.holding Tryd.prog os ⟨#[], #[], []⟩ with heap := (World.holding Tryd.prog os ⟨#[], #[], []⟩).heap.modify 0 fun
      | .cells _ t frozen => .cells (tab.map fun z => Value.int .u32 z).toArray t frozen
      | o => o }
end Go.Proofs.YtnjamnokflfooaaDoor.Crc
