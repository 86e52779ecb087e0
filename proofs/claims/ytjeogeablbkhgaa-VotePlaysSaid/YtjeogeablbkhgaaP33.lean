/-
  Layer 19: a ballot in memory, the code's or the document's.
  Conditions: none.
-/
import Derived.Test.YtjeogeablbkhgaaP29
import Derived.Test.YtjeogeablbkhgaaP32
import Derived.Test.YtjeogeablbkhgaaP10
import Derived.Test.YtjeogeablbkhgaaP13
namespace Go.Proofs.Ytjeogeablbkhgaa.Vot
set_option maxRecDepth 100000
open Go.RowKit Go.Deep Go.Proofs.Ytjeogeablbkhgaa.Mem Go.Proofs.Ytjeogeablbkhgaa.Item
theorem el_said : Elem 63 68 (.agg #[.int .i64 0, .slice none 0 0, .bool false, .bool false]) 4 40 := ⟨Try.underlying63, by kernel_rfl, rfl, by decide, by decide⟩
theorem el_part : Elem 34 70 (.agg #[.int .i64 0, .slice none 0 0, .bool false, .bool false]) 4 40 := ⟨Try.underlying34, by kernel_rfl, rfl, by decide, by decide⟩
/-- A ballot lies at block g, its parts l at A; z is its last cell (whether it was given up, or its state). -/
structure BAt (bT eT : TypeId) (B T : Nat) (w : World) (g : Nat) (A : Option Addr) (c : Nat) (t : Tid) (z : Value) (l : List Sd) : Prop where
 box : Cells w g bT [.int .i64 t.node, .int .i64 t.epoch, .int .i64 t.seq, .slice A l.length c, z]
 row : OwnG eT 4 Sd.vals B w (.slice A l.length c) l
 far : blk A ≠ some g
 low : B ≤ g ∧ g < T
 top : ∀ k, blk A = some k → k < T
 its : ∀ s ∈ l, Items w s.A s.its ∧ (s.A = none → s.c = 0)
 ifar : ∀ s ∈ l, ∀ k, blk s.A = some k → k < T ∧ k ≠ g ∧ blk A ≠ some k
 uniq : (l.map (·.node)).Nodup
 len : l.length ≤ 40
 ilen : ∀ s ∈ l, s.its.length ≤ 40
section
variable {bT eT : TypeId} {B T g c n : Nat} {w w1 : World} {A : Option Addr} {t : Tid} {z : Value} {l : List Sd}
theorem items_only {S : Nat → Prop} {D : Option Addr} {is : List It} (h : Items w D is) (ho : Only S w w1) (hn : ∀ k, blk D = some k → ¬ S k) : Items w1 D is := fun k hk => by
 obtain ⟨b, off, e, hi⟩ := h k hk
 subst e
 refine ⟨b, off, rfl, ?_⟩
 have hb : w1.heap[b]? = w.heap[b]? := ho.block b hi.lt (hn b rfl)
 have hc : ∀ j, w1.cell? ⟨b, j, none⟩ = w.cell? ⟨b, j, none⟩ := fun j => by
  unfold World.cell?
  rw [hb]
 exact ⟨(hc _).trans hi.cell, (hc _).trans hi.version, (hc _).trans hi.value, (hc _).trans hi.write, (hc _).trans hi.new⟩
theorem BAt.only {S : Nat → Prop} (h : BAt bT eT B T w g A c t z l) (ho : Only S w w1) (h1 : ¬ S g) (h2 : ∀ k, blk A = some k → ¬ S k) (h3 : ∀ s ∈ l, ∀ k, blk s.A = some k → ¬ S k) : BAt bT eT B T w1 g A c t z l :=
 ⟨cells_only h.box ho h1, row_only h.row ho fun k e => by rw [own_blk] at e; exact h2 k e, h.far, h.low, h.top, fun s hs => ⟨items_only (h.its s hs).1 ho (h3 s hs), (h.its s hs).2⟩, h.ifar, h.uniq, h.len, h.ilen⟩
theorem BAt.later (h : BAt bT eT B T w g A c t z l) (hb : Below w.heap.size w w1) : BAt bT eT B T w1 g A c t z l := h.only (S := fun _ => False) (Only.of_below hb) (fun e => e) (fun _ _ e => e) fun _ _ _ _ e => e
/-- The part at place k. -/
theorem BAt.elem (h : BAt bT eT B T w g A c t z l) {k : Nat} (hk : k < l.length) : ∃ p, A = some ⟨p, 0, none⟩ ∧ CellsO w p (k * 4) l[k].vals := OwnG.elem fit_sd h.row hk
theorem BAt.setZ (h : BAt bT eT B T w g A c t z l) (u : Value) : BAt bT eT B T (w.setCell ⟨g, 4, none⟩ u) g A c t u l ∧ Only (fun k => k = g) w (w.setCell ⟨g, 4, none⟩ u) := by
 have ho := Only.of_set w ⟨g, 4, none⟩ u
 refine ⟨⟨h.box.set_ 4 u, row_only h.row ho fun k e e2 => ?_, h.far, h.low, h.top, fun s hs => ⟨items_only (h.its s hs).1 ho fun k e => (h.ifar s hs k e).2.1, (h.its s hs).2⟩, h.ifar, h.uniq, h.len, h.ilen⟩, ho⟩
 rw [own_blk] at e
 exact h.far (by rw [e]; exact congrArg some e2)
/-- A part's word is turned. -/
theorem BAt.setP {p : Nat} (h : BAt bT eT B T w g (some ⟨p, 0, none⟩) c t z l) {k j : Nat} (hk : k < l.length) (hj : j < 4) {u : Value} (h1 : u.oneCell' = true) {x : Sd} (hx : x.vals = l[k].vals.set j u) (hn : x.node = l[k].node) (hA : x.A = l[k].A) (hc : x.c = l[k].c) (hi : x.its = l[k].its) :
  BAt bT eT B T (w.setCell ⟨p, k * 4 + j, none⟩ u) g (some ⟨p, 0, none⟩) c t z (l.set k x) ∧ Only (fun i => i = p) w (w.setCell ⟨p, k * 4 + j, none⟩ u) := by
 have ho := Only.of_set w ⟨p, k * 4 + j, none⟩ u
 have hm : ∀ s ∈ l.set k x, ∃ s' ∈ l, s.A = s'.A ∧ s.c = s'.c ∧ s.its = s'.its := fun s hs => by
  rcases List.mem_or_eq_of_mem_set hs with h5 | h5
  ·exact ⟨s, h5, rfl, rfl, rfl⟩
  ·subst h5
   exact ⟨l[k], List.getElem_mem hk, hA, hc, hi⟩
 refine ⟨⟨?_, ?_, h.far, h.low, h.top, fun s hs => ?_, fun s hs i e => ?_, ?_, by rw [List.length_set]; exact h.len, fun s hs => ?_⟩, ho⟩
 ·rw [List.length_set]
  exact cells_only h.box ho fun e => h.far (by rw [e]; rfl)
 ·rw [List.length_set]
  exact OwnG.setC fit_sd h.row hk hj h1 hx
 ·obtain ⟨s', hs', e1, e2, e3⟩ := hm s hs
  rw [e1, e2, e3]
  exact ⟨items_only (h.its s' hs').1 ho fun i e e4 => (h.ifar s' hs' i e).2.2 (by rw [e4]; rfl), (h.its s' hs').2⟩
 ·obtain ⟨s', hs', e1, e2, e3⟩ := hm s hs
  rw [e1] at e
  exact h.ifar s' hs' i e
 ·rw [List.map_set, hn, ← List.getElem_map (f := fun s : Sd => s.node) (h := by rw [List.length_map]; exact hk), List.set_getElem_self]
  exact h.uniq
 ·obtain ⟨s', hs', e1, e2, e3⟩ := hm s hs
  rw [e3]
  exact h.ilen s' hs'
theorem BAt.setY {p : Nat} (h : BAt bT eT B T w g (some ⟨p, 0, none⟩) c t z l) {k : Nat} (hk : k < l.length) :
  BAt bT eT B T (w.setCell ⟨p, k * 4 + 2, none⟩ (.bool true)) g (some ⟨p, 0, none⟩) c t z (l.set k l[k].setY) ∧ Only (fun i => i = p) w (w.setCell ⟨p, k * 4 + 2, none⟩ (.bool true)) := h.setP hk (by omega) rfl rfl rfl rfl rfl rfl
theorem BAt.setK {p : Nat} (h : BAt bT eT B T w g (some ⟨p, 0, none⟩) c t z l) {k : Nat} (hk : k < l.length) :
  BAt bT eT B T (w.setCell ⟨p, k * 4 + 3, none⟩ (.bool true)) g (some ⟨p, 0, none⟩) c t z (l.set k l[k].setK) ∧ Only (fun i => i = p) w (w.setCell ⟨p, k * 4 + 3, none⟩ (.bool true)) := h.setP hk (by omega) rfl rfl rfl rfl rfl rfl
end
/-- The blocks that a ballot's calls turn. -/
def foot (g : Nat) (A : Option Addr) (k : Nat) : Prop := k = g ∨ blk A = some k
/-- The code's ballot; the document's. -/
abbrev CAt (B T : Nat) (w : World) (g : Nat) (A : Option Addr) (c : Nat) (t : Tid) (ab : Bool) (l : List Sd) : Prop := BAt 65 68 B T w g A c t (.bool ab) l
abbrev DAt (B T : Nat) (w : World) (g : Nat) (A : Option Addr) (c : Nat) (t : Tid) (s : Int) (l : List Sd) : Prop := BAt 41 70 B T w g A c t (.int .i64 s) l
end Go.Proofs.Ytjeogeablbkhgaa.Vot
