/-
  Layer 14, SessionOnce: a packet leaves the way: two appends onto new memory.
  Layer 14, SessionOnce: a new row of what is on its way is laid in the box.
  Conditions: none.
-/
import Derived.Test.YtccdpgbmkiapdaaL43
import Derived.Test.YtccdpgbmkiapdaaL17
namespace Go.Proofs.Ytccdpgbmkiapdaa.Ses
set_option maxRecDepth 100000
open Go.RowKit Go.Deep Go.Proofs.Ytccdpgbmkiapdaa.Mem Go.Proofs.Ytccdpgbmkiapdaa.Win
section
variable {B pb vc : Nat} {w wz : World} {vs : List Value} {l : List Wy} {V : Option Addr}
theorem WyAt.first (h : WyAt B w pb vs l V vc) {i : Nat} (hi : i < l.length) : ∃ g, V = some ⟨g, 0, none⟩ := by
 obtain ⟨g, e, _⟩ := OwnG.elem fit_wy h.row hi
 exact ⟨g, e⟩
theorem way_cut (h : WyAt B w pb vs l V vc) {i : Nat} (hi : i < l.length) (hl : l.length ≤ 300) (hb : Below w.heap.size w wz) :
  ∃ V1 n1 c1 w1, (Builtin.append_ #[83, 83] 83 #[.slice (some ⟨wz.heap.size, 0, none⟩) 0 0, .slice V i vc]).run Try.prog (wz.alloc (.cells #[] 134)) = .ok (.slice V1 n1 c1) w1 ∧ Below wz.heap.size wz w1 ∧
   ∃ V2 n2 c2 w2, (Builtin.append_ #[83, 83] 83 #[.slice V1 n1 c1, .slice (if vc = i + 1 then V else V.map fun a => a.add ((i + 1) * 6)) (l.length - (i + 1)) (vc - (i + 1))]).run Try.prog w1 = .ok (.slice V2 n2 c2) w2 ∧
    n2 = (l.eraseIdx i).length ∧ OwnG 134 6 Wy.vals wz.heap.size w2 (.slice V2 n2 c2) (l.eraseIdx i) ∧ Below wz.heap.size wz w2 := by
 obtain ⟨g, rfl⟩ := h.first hi
 have hbz := below_alloc wz (.cells #[] 134)
 have hb1 := hbz
 have hbw : Below w.heap.size w (wz.alloc (.cells #[] 134)) := hb.trans (hbz.mono hb.size)
 have hz : OwnG 134 6 Wy.vals wz.heap.size (wz.alloc (.cells #[] 134)) (.slice (some ⟨wz.heap.size, 0, none⟩) 0 0) [] := World.ownsRow_made (base := wz.heap.size) wz #[] 0 (Nat.le_refl _) (Nat.zero_le _) (by simp)
 have hs0 := (OwnG.sl fit_wy h.row).2
 have hti : (l.take i).length = i := by rw [List.length_take]; omega
 obtain ⟨V1, n1, c1, w1, hr1, ho1, hn1, hon1, hnb1⟩ := OwnG.appS el_wy fit_wy hz (m := l.take i) (A := some ⟨g, 0, none⟩) (c := vc) (by rw [List.map_take]; exact sl_take' (hs0.later hbw) i) (fun e => by cases e) hb1.size (by rw [hti]; simp; omega)
 rw [hti] at hr1
 rw [List.nil_append] at ho1
 have hb2 : Below wz.heap.size wz w1 := hb1.trans (hon1.below hb1.size fun k e => by
  have e2 : wz.heap.size = k := Option.some.inj e
  omega)
 have hbw2 : Below w.heap.size w w1 := hb.trans (hb2.mono hb.size)
 have hdl : (l.drop (i + 1)).length = l.length - (i + 1) := List.length_drop
 have hsd : Sl w1 (if vc = i + 1 then (some ⟨g, 0, none⟩ : Option Addr) else (some ⟨g, 0, none⟩ : Option Addr).map fun a => a.add ((i + 1) * 6)) 6 ((l.drop (i + 1)).map Wy.vals) := by
  split
  ·rename_i e
   have hcap : l.length ≤ vc := by
    have h1 := h.row
    obtain ⟨_, h2⟩ := h1
    rcases h2 with ⟨h2, _⟩ | ⟨g', cap, cur, h2, h3, _⟩
    ·cases h2
    ·simp only [Value.slice.injEq] at h2
     omega
   rw [List.drop_of_length_le (by omega)]
   exact sl_nil _ _ _
  ·rw [List.map_drop]
   show Sl w1 (some ((⟨g, 0, none⟩ : Addr).add ((i + 1) * 6))) 6 _
   rw [addr_add]
   have := sl_drop' (hs0.later hbw2) (i + 1)
   rw [Nat.zero_add] at this
   exact this
 obtain ⟨V2, n2, c2, w2, hr2, ho2, hn2, hon2, hnb2⟩ := OwnG.appS el_wy fit_wy ho1 (m := l.drop (i + 1)) (c := vc - (i + 1)) hsd (fun e => by split at e <;> cases e) hb2.size (by rw [hti, hdl]; omega)
 rw [hdl] at hr2
 rw [← List.eraseIdx_eq_take_drop_succ] at ho2 hn2
 exact ⟨V1, n1, c1, w1, hr1, hb2, V2, n2, c2, w2, hr2, hn2, ho2, hb2.trans (hon2.below hb2.size fun k e => (World.ownsRow.lt ho1 k e).1)⟩
end
end Go.Proofs.Ytccdpgbmkiapdaa.Ses
namespace Go.Proofs.Ytccdpgbmkiapdaa.Ses
set_option maxRecDepth 100000
open Go.ChangeShapes Go.WideShapes Go.ChangeAt Go.RowKit Go.Deep Go.Proofs.Ytccdpgbmkiapdaa.Mem Go.Proofs.Ytccdpgbmkiapdaa.Win
/-- A new row is laid in the box. -/
theorem WyAt.swap {B pb vc : Nat} {w w2 : World} {vs : List Value} {l l2 : List Wy} {V : Option Addr} (h : WyAt B w pb vs l V vc) (hB : B ≤ w.heap.size) (hb : Below w.heap.size w w2) {V2 : Option Addr} {n2 c2 : Nat} (hn : n2 = l2.length) (hr : OwnG 134 6 Wy.vals w.heap.size w2 (.slice V2 n2 c2) l2) :
  w2.cell? ⟨pb, 4, none⟩ = some (.slice V l.length vc) ∧ w2.frozen? ⟨pb, 4, none⟩ = false ∧ WyStep B w pb vs V l2 (w2.setCell ⟨pb, 4, none⟩ (.slice V2 n2 c2)) := by
 subst hn
 have hbx := h.box.later hb
 have h4 := (List.getElem?_eq_some_iff.1 h.at4).1
 have hnew : ∀ k, blk V2 = some k → w.heap.size ≤ k := fun k e => (World.ownsRow.lt hr k (by rw [own_blk]; exact e)).1
 have hnp : ∀ k, blk V2 = some k → k ≠ pb := fun k e => by
  have := hnew k e
  have := h.box.lt
  omega
 refine ⟨hbx.cell (j := 4) h.at4, hbx.frozen (j := 4) h4, V2, c2, ⟨hbx.set_ 4 _, ?_, ?_, hnp⟩, ?_, fun k e => Or.inr (hnew k e)⟩
 ·rw [List.getElem?_set_self h4]
 ·exact own_up hB (row_only hr (Only.of_set w2 ⟨pb, 4, none⟩ _) fun k e => by
   rw [own_blk] at e
   exact hnp k e)
 ·exact (Only.of_below (S := fun k => k = pb ∨ blk V = some k) hb).trans (Only.of_set w2 ⟨pb, 4, none⟩ _) fun k _ e => Or.inl e
end Go.Proofs.Ytccdpgbmkiapdaa.Ses
