/-
  slices' symMerge, whole: two parts that rise become one that rises, and the items of each cell stand as they stood.
  Conditions: none.
-/
import Derived.Test.YtjeogeablbkhgaaP21
namespace Go.Proofs.Ytjeogeablbkhgaa.Item
open Go.RowKit Go.Proofs.Ytjeogeablbkhgaa.Mem Go.Proofs.Ytjeogeablbkhgaa.Wire
theorem merged : ∀ n, Merged n
 | 0 => by intro P X Y S b N cap a m c w h hx hy; omega
 | n + 1 => by
  intro P X Y S b N cap a m c w h hx hy hr hN ha hm hc hX hY hl
  by_cases hx1 : X.length = 1
  ·obtain ⟨x, rfl⟩ := List.length_eq_one_iff.1 hx1
   refine (mergeL_any P Y S x b N cap a m c w (by simpa using hr) (by rw [hN]; simp) ha (by rw [hm]; rfl) (by rw [hc]; rfl) hY hl).mono ?_
   rintro e w' ⟨rfl, Z, hz, h2, h3, h4, h5⟩
   exact ⟨rfl, Z, by rw [hz, List.length_singleton]; omega, h2, by simpa using h3, h4, h5⟩
  ·by_cases hy1 : Y.length = 1
   ·obtain ⟨y, rfl⟩ := List.length_eq_one_iff.1 hy1
    refine (mergeR_any P X S y b N cap a m c w (by simpa using hr) (by rw [hN]; simp) ha hm (by rw [hc]; rfl) hX (by omega) hl).mono ?_
    rintro e w' ⟨rfl, Z, hz, h2, h3, h4, h5⟩
    exact ⟨rfl, Z, by rw [hz, List.length_singleton], h2, by simpa using h3, h4, h5⟩
   ·exact mergeG_any n (merged n) P X Y S b N cap a m c w h hr hN ha hm hc hX hY (by omega) (by omega) hl
end Go.Proofs.Ytjeogeablbkhgaa.Item
