/-
  A row of items in memory that is sorted in place: its cells, an item put at a place, two items exchanged.
  Conditions: none.
-/
import Derived.Test.YtjeogeablbkhgaaP11
import Derived.Test.YtjeogeablbkhgaaP13
import Derived.Maps.AppendAt
namespace Go.Proofs.Ytjeogeablbkhgaa.Item
open Go.RowKit Go.Proofs.Ytjeogeablbkhgaa.Mem Go.Proofs.Ytjeogeablbkhgaa.Wire
/-- Block b holds these items, from its first cell on. -/
def Row (w : World) (b : Nat) (l : List It) : Prop := Cells w b 60 (flat l)
theorem flat_cons (x : It) (l : List It) : flat (x :: l) = x.vals ++ flat l := rfl
theorem flat_app (l m : List It) : flat (l ++ m) = flat l ++ flat m := by unfold flat; rw [List.flatMap_append]
theorem flat_at (l : List It) (k : Nat) (h : k < l.length) (j : Nat) (hj : j < 5) : (flat l)[k * 5 + j]? = l[k].vals[j]? := by
 induction l generalizing k with
 | nil => simp at h
 | cons x l ih =>
  have hlen : x.vals.length = 5 := rfl
  rw [flat_cons]
  cases k with
  | zero => rw [Nat.zero_mul, Nat.zero_add, List.getElem?_append_left (by omega)]; rfl
  | succ k =>
   rw [List.getElem?_append_right (by omega), hlen, show (k + 1) * 5 + j - 5 = k * 5 + j by omega, ih k (by simpa using h)]
   rfl
theorem Row.at_ {w : World} {b : Nat} {l : List It} (h : Row w b l) {k : Nat} (hk : k < l.length) : ItAt w b (k * 5) l[k] :=
 have e := fun (j : Nat) (hj : j < 5) (u : Value) (hu : l[k].vals[j]? = some u) => Cells.cell h (j := k * 5 + j) (u := u) (by rw [flat_at l k hk j hj]; exact hu)
 ⟨e 0 (by omega) _ rfl, e 1 (by omega) _ rfl, e 2 (by omega) _ rfl, e 3 (by omega) _ rfl, e 4 (by omega) _ rfl⟩
theorem Row.frozen {w : World} {b : Nat} {l : List It} (h : Row w b l) {k : Nat} (hk : k < l.length) (j : Nat) (hj : j < 5) : w.frozen? ⟨b, k * 5 + j, none⟩ = false := Cells.frozen h (by rw [flat_len]; omega)
theorem Row.only {S : Nat → Prop} {w w' : World} {b : Nat} {l : List It} (h : Row w b l) (ho : Only S w w') (hn : ¬ S b) : Row w' b l := cells_only h ho hn
theorem Row.later {w w' : World} {b : Nat} {l : List It} (h : Row w b l) (hb : Below w.heap.size w w') : Row w' b l := Cells.later h hb
theorem Row.lt {w : World} {b : Nat} {l : List It} (h : Row w b l) : b < w.heap.size := Cells.lt h
/-- The world with an item put at a place. -/
def put5 (w : World) (b off : Nat) (x : It) : World :=
 ((((w.setCell ⟨b, off, none⟩ (.int .i64 x.cell)).setCell ⟨b, off + 1, none⟩ (.int .i64 x.version)).setCell ⟨b, off + 2, none⟩ (.int .i64 x.value)).setCell ⟨b, off + 3, none⟩ (.bool x.write)).setCell ⟨b, off + 4, none⟩ (.int .i64 x.new)
theorem put5_only (w : World) (b off : Nat) (x : It) : Only (fun i => i = b) w (put5 w b off x) :=
 ((((Only.of_set w ⟨b, off, none⟩ _).trans (Only.of_set _ ⟨b, off + 1, none⟩ _) fun _ _ h => h).trans (Only.of_set _ ⟨b, off + 2, none⟩ _) fun _ _ h => h).trans (Only.of_set _ ⟨b, off + 3, none⟩ _) fun _ _ h => h).trans (Only.of_set _ ⟨b, off + 4, none⟩ _) fun _ _ h => h
theorem flat_set (l : List It) (k : Nat) (x : It) (h : k < l.length) :
  flat (l.set k x) = (((((flat l).set (k * 5) (.int .i64 x.cell)).set (k * 5 + 1) (.int .i64 x.version)).set (k * 5 + 2) (.int .i64 x.value)).set (k * 5 + 3) (.bool x.write)).set (k * 5 + 4) (.int .i64 x.new) := by
 induction l generalizing k with
 | nil => simp at h
 | cons y l ih =>
  cases k with
  | zero =>
   rw [List.set_cons_zero, flat_cons, flat_cons]
   simp [It.vals]
  | succ k =>
   rw [List.set_cons_succ, flat_cons, flat_cons, ih k (by simpa using h)]
   have hlen : y.vals.length = 5 := rfl
   have e : ∀ (m : List Value) (j : Nat) (u : Value), (y.vals ++ m).set ((k + 1) * 5 + j) u = y.vals ++ m.set (k * 5 + j) u := fun m j u => by
    rw [List.set_append_right _ _ (by omega), hlen, show (k + 1) * 5 + j - 5 = k * 5 + j by omega]
   have e0 := e (flat l) 0
   simp only [Nat.add_zero] at e0
   rw [e0, e, e, e, e]
theorem Row.put {w : World} {b : Nat} {l : List It} (h : Row w b l) {k : Nat} (hk : k < l.length) (x : It) : Row (put5 w b (k * 5) x) b (l.set k x) := by
 unfold Row
 rw [flat_set l k x hk]
 exact ((((Cells.set_ h _ _).set_ _ _).set_ _ _).set_ _ _).set_ _ _
/-- Two items exchanged. -/
def swapAt (l : List It) (i k : Nat) (x y : It) : List It := (l.set i y).set k x
theorem cmp_any (x y : It) (w : World) : Calls Try.prog 44 #[x.val, y.val] w fun e w' => e = .returned (.int .i64 (cmpI x.cell y.cell)) ∧ Below w.heap.size w w' := by
 obtain ⟨x0, x1, x2, x3, x4⟩ := x
 obtain ⟨y0, y1, y2, y3, y4⟩ := y
 have hb1 := below_alloc w (.cells #[.int .i64 x0, .int .i64 x1, .int .i64 x2, .bool x3, .int .i64 x4] 60)
 have HB := Lib.hid (hb1.alloc hb1.size (.cells #[.int .i64 y0, .int .i64 y1, .int .i64 y2, .bool y3, .int .i64 y4] 60))
 clear hb1
 unfold It.val
 go_enter Try.func44, Try.ntmps44
 go_wp2_with fail
 refine (compare_any x0 y0 _).mono ?_
 rintro e w1 ⟨rfl, rfl⟩
 go_wp2_with fail
 go_returns
 exact ⟨rfl, HB.out⟩
theorem eq_any (x y : It) (w : World) : Calls Try.prog 47 #[x.val, y.val] w fun e w' => e = .returned (.bool (x.cell == y.cell)) ∧ Below w.heap.size w w' := by
 obtain ⟨x0, x1, x2, x3, x4⟩ := x
 obtain ⟨y0, y1, y2, y3, y4⟩ := y
 have hb1 := below_alloc w (.cells #[.int .i64 x0, .int .i64 x1, .int .i64 x2, .bool x3, .int .i64 x4] 60)
 have HB := Lib.hid (hb1.alloc hb1.size (.cells #[.int .i64 y0, .int .i64 y1, .int .i64 y2, .bool y3, .int .i64 y4] 60))
 clear hb1
 unfold It.val
 go_enter Try.func47, Try.ntmps47
 go_wp2_with fail
 go_returns
 exact ⟨rfl, HB.out⟩
/-- While two items of a row are exchanged: which of the two were put. -/
structure swSt (b i k : Nat) (l : List It) (d15 d17 : Bool) (x y : It) (w0 w : World) : Prop where
 row : Row w b (cond d17 (swapAt l i k x y) (cond d15 (l.set i y) l))
 only : Only (fun j => j = b) w0 w
section
variable {b i k : Nat} {l : List It} {d15 d17 : Bool} {x y : It} {w0 w w' : World}
theorem swSt.put1 (h : swSt b i k l false false x y w0 w) (hi : i < l.length) : swSt b i k l true false x y w0 (put5 w b (i * 5) y) :=
 ⟨Row.put (l := l) h.row hi y, h.only.trans (put5_only _ _ _ _) fun _ _ e => e⟩
theorem swSt.put2 (h : swSt b i k l true false x y w0 w) (hk : k < l.length) : swSt b i k l true true x y w0 (put5 w b (k * 5) x) :=
 ⟨Row.put (l := l.set i y) h.row (by rw [List.length_set]; exact hk) x, h.only.trans (put5_only _ _ _ _) fun _ _ e => e⟩
theorem swSt.rest (h : swSt b i k l false d17 x y w0 w) (hd : d17 = false) : Row w b l := by subst hd; exact h.row
end
end Go.Proofs.Ytjeogeablbkhgaa.Item
