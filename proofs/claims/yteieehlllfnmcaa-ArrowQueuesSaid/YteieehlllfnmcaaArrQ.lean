/-
  Layer 16, ArrowQueues: arrows, finds on their way, who asked, behind whom a find ended, in memory. Conditions: none.
-/
import Derived.Test.YteieehlllfnmcaaArrLaw2
import Derived.Test.YteieehlllfnmcaaSeen
namespace Go.Proofs.Yteieehlllfnmcaa.Arr
set_option maxRecDepth 100000
open Go.RowKit Go.Deep Go.Proofs.Yteieehlllfnmcaa.Mem Go.Proofs.Yteieehlllfnmcaa.Spn

def Fd.vals (f : Fd) : List Value := [.int .i64 (f.who : Int), .int .i64 (f.src : Int), .int .i64 (f.tgt : Int)]
theorem fit_fd (l : List Fd) : Fit 3 (l.map Fd.vals) := ⟨fun v hv => by obtain ⟨x, _, rfl⟩ := List.mem_map.1 hv; rfl, fun v hv u hu => by
  obtain ⟨x, _, rfl⟩ := List.mem_map.1 hv
  unfold Fd.vals at hu
  simp only [List.mem_cons, List.not_mem_nil, or_false] at hu
  rcases hu with rfl | rfl | rfl <;> rfl⟩
theorem el_fd : Elem 55 58 (.agg #[.int .i64 0, .int .i64 0, .int .i64 0]) 3 24 := ⟨Try.underlying55, by kernel_rfl, rfl, by decide, by decide⟩
/-- All that the law's loop goes on with. -/
structure QM (B : Nat) (w : World) (g vc n : Nat) (T : Nat → Nat) (V : Option Addr) (wc : Nat) (way : List Fd) (ma mb : Nat) (asked behind : List Nat) : Prop where
  row : Rw B w (some ⟨g, 0, none⟩) vc n T
  way : OwnG 58 3 Fd.vals B w (.slice V way.length wc) way
  sa : Seen w ma asked
  sb : Seen w mb behind
  gm : g ≠ ma ∧ g ≠ mb ∧ ma ≠ mb
  vg : ∀ k, blk V = some k → k ≠ g ∧ k ≠ ma ∧ k ≠ mb
  low : B ≤ g ∧ B ≤ ma ∧ B ≤ mb
section
variable {B g vc n wc ma mb : Nat} {w w1 : World} {T T' : Nat → Nat} {V : Option Addr} {way : List Fd} {asked behind : List Nat}
theorem QM.lt (h : QM B w g vc n T V wc way ma mb asked behind) : g < w.heap.size ∧ ma < w.heap.size ∧ mb < w.heap.size ∧ B ≤ w.heap.size := by
  obtain ⟨g', e, h1, h2⟩ := h.row.low
  obtain rfl : g = g' := by simpa using e
  exact ⟨h2, h.sa.lt, h.sb.lt, by omega⟩
theorem QM.later (h : QM B w g vc n T V wc way ma mb asked behind) (hb : Below w.heap.size w w1) : QM B w1 g vc n T V wc way ma mb asked behind :=
  ⟨h.row.later hb, OwnG.later h.way hb, h.sa.later hb, h.sb.later hb, h.gm, h.vg, h.low⟩
theorem QM.turn (h : QM B w g vc n T V wc way ma mb asked behind) (hr : Rw B w1 (some ⟨g, 0, none⟩) vc n T') (ho : Only (fun j => j = g) w w1) : QM B w1 g vc n T' V wc way ma mb asked behind ∧ Below B w w1 :=
  ⟨⟨hr, row_only h.way ho fun k e => (h.vg k (by rw [← e, own_blk])).1, h.sa.only ho fun e => h.gm.1 e.symm, h.sb.only ho fun e => h.gm.2.1 e.symm, h.gm, h.vg, h.low⟩, ho.below h.lt.2.2.2 fun k e => by rw [e]; exact h.low.1⟩
theorem QM.asks (h : QM B w g vc n T V wc way ma mb asked behind) {l : List Nat} (hs : Seen w1 ma l) (ho : Only (fun j => j = ma) w w1) : QM B w1 g vc n T V wc way ma mb l behind ∧ Below B w w1 :=
  ⟨⟨h.row.only ho fun k e e2 => h.gm.1 (by have : g = k := Option.some.inj e; rw [this]; exact e2), row_only h.way ho fun k e => (h.vg k (by rw [← e, own_blk])).2.1, hs, h.sb.only ho fun e => h.gm.2.2 e.symm, h.gm, h.vg, h.low⟩, ho.below h.lt.2.2.2 fun k e => by rw [e]; exact h.low.2.1⟩
theorem QM.behs (h : QM B w g vc n T V wc way ma mb asked behind) {l : List Nat} (hs : Seen w1 mb l) (ho : Only (fun j => j = mb) w w1) : QM B w1 g vc n T V wc way ma mb asked l ∧ Below B w w1 :=
  ⟨⟨h.row.only ho fun k e e2 => h.gm.2.1 (by have : g = k := Option.some.inj e; rw [this]; exact e2), row_only h.way ho fun k e => (h.vg k (by rw [← e, own_blk])).2.2, h.sa.only ho fun e => h.gm.2.2 e, hs, h.gm, h.vg, h.low⟩, ho.below h.lt.2.2.2 fun k e => by rw [e]; exact h.low.2.2⟩
theorem QM.ways (h : QM B w g vc n T V wc way ma mb asked behind) {V' : Option Addr} {c' : Nat} {l : List Fd} (hr : OwnG 58 3 Fd.vals B w1 (.slice V' l.length c') l) (ho : Only (fun j => blk V = some j) w w1) (hg : ∀ k, blk V' = some k → blk V = some k ∨ w.heap.size ≤ k) :
    QM B w1 g vc n T V' c' l ma mb asked behind ∧ Below B w w1 := by
  have hl := h.lt
  refine ⟨⟨h.row.only ho fun k e e2 => (h.vg k e2).1 (by have : g = k := Option.some.inj e; exact this.symm), hr, h.sa.only ho fun e => (h.vg ma e).2.1 rfl, h.sb.only ho fun e => (h.vg mb e).2.2 rfl, h.gm, fun k e => ?_, h.low⟩, ho.below hl.2.2.2 fun k e => (World.ownsRow.lt h.way k (by rw [own_blk]; exact e)).1⟩
  rcases hg k e with e2 | e2
  · exact h.vg k e2
  · omega
theorem QM.more (h : QM B w g vc n T V wc way ma mb asked behind) (f : Fd) (hl : way.length ≤ 1000) :
    ∃ V' c' w', (Builtin.append_ #[55, 55] 55 #[.slice V way.length wc, .slice (some ⟨w.heap.size, 0, none⟩) 1 1]).run Try.prog (w.alloc (.cells #[.int .i64 (f.who : Int), .int .i64 (f.src : Int), .int .i64 (f.tgt : Int)] 58)) = .ok (.slice V' (way ++ [f]).length c') w' ∧ QM B w' g vc n T V' c' (way ++ [f]) ma mb asked behind ∧ Below B w w' := by
  obtain ⟨w2, hw2⟩ : ∃ W, W = w.alloc (.cells #[.int .i64 (f.who : Int), .int .i64 (f.src : Int), .int .i64 (f.tgt : Int)] 58) := ⟨_, rfl⟩
  have hb2 : Below w.heap.size w w2 := by rw [hw2]; exact below_alloc _ _
  have hc2 : Cells w2 w.heap.size 58 f.vals := by rw [hw2]; exact cells_new _ _ _ _ rfl
  have h2 := h.later hb2
  rw [← hw2]
  obtain ⟨V2, n2, c2, w5, hrun, hrow, hn2, hon, hnb⟩ := OwnG.appS el_fd fit_fd h2.way (m := [f]) (cells_sl (by simpa using hc2) (fun v hv => (fit_fd [_]).len v hv)) (fun e => by cases e) h2.lt.2.2.2 (by simp only [List.length_singleton]; omega)
  subst hn2
  obtain ⟨k1, k2⟩ := h2.ways hrow (hon.mono fun k _ e => by rw [own_blk] at e; exact e) fun k e => by
    rcases hnb k e with e2 | e2
    · rw [own_blk] at e2
      exact Or.inl e2
    · exact Or.inr e2
  exact ⟨V2, c2, w5, hrun, k1, (hb2.mono h.lt.2.2.2).trans k2⟩
theorem QM.elem (h : QM B w g vc n T V wc way ma mb asked behind) {k : Nat} (hk : k < way.length) : ∃ gw, V = some ⟨gw, 0, none⟩ ∧ CellsO w gw (k * 3) way[k].vals := OwnG.elem fit_fd h.way hk
theorem QM.cap {gw : Nat} (h : QM B w g vc n T (some ⟨gw, 0, none⟩) wc way ma mb asked behind) : way.length ≤ wc := by
  have := h.way
  unfold OwnG at this
  exact (cells_of_own this).2.1
theorem QM.rest {gw i : Nat} (h : QM B w g vc n T (some ⟨gw, 0, none⟩) wc way ma mb asked behind) (hi : i < way.length) : ∃ AD : Addr, (if wc = i + 1 then some ⟨gw, 0, none⟩ else some ⟨gw, (i + 1) * 3, none⟩ : Option Addr) = some AD ∧ ∀ wi, Below w.heap.size w wi → Sl wi (some AD) 3 ((way.drop (i + 1)).map Fd.vals) := by
  have hc := h.cap
  by_cases he : wc = i + 1
  · refine ⟨_, if_pos he, fun wi hb => ?_⟩
    have h0 : way.drop (i + 1) = [] := List.drop_eq_nil_iff.2 (by omega)
    rw [h0]
    exact sl_nil _ _ _
  · refine ⟨_, if_neg he, fun wi hb => ?_⟩
    have := sl_drop' (OwnG.sl fit_fd (h.later hb).way).2 (i + 1)
    rw [Nat.zero_add] at this
    rw [List.map_drop]
    exact this
end
end Go.Proofs.Yteieehlllfnmcaa.Arr
