/-
  A row of items in memory that is sorted in place: its cells, an item put at a place, two items exchanged.
  Whole structs by value, read and written at once (over the kit's laws of ranges), for blocks whose first cells are known. No program is named.
  Layer 8: states as values, and what is asked of a row of structs.
  Conditions: none.
-/
import Derived.Test.YtalhbblmnahcdaaGreatPa7
import Derived.Test.YtalhbblmnahcdaaGreatPa9
import Derived.Maps.AppendAt
import Derived.Test.YtalhbblmnahcdaaGreatPa6
import Derived.Deep.MidRow
import Derived.Tactics
import Derived.Great.BuildSlice
import Derived.Test.YtalhbblmnahcdaaGreatPa8
namespace Go.Proofs.YtalhbblmnahcdaaGreat.Item
open Go.RowKit Go.Proofs.YtalhbblmnahcdaaGreat.Mem Go.Proofs.YtalhbblmnahcdaaGreat.Wire
/-- Block b holds these items, from its first cell on. -/
def Row (w : World) (b : Nat) (l : List It) : Prop := Cells w b 72 (flat l)
theorem flat_cons (x : It) (l : List It) : flat (x :: l) = x.vals ++ flat l := rfl
theorem Row.frozen {w : World} {b : Nat} {l : List It} (h : Row w b l) {k : Nat} (hk : k < l.length) (j : Nat) (hj : j < 5) : w.frozen? ⟨b, k * 5 + j, none⟩ = false := Cells.frozen h (by rw [flat_len]; omega)
theorem Row.only {S : Nat → Prop} {w w' : World} {b : Nat} {l : List It} (h : Row w b l) (ho : Only S w w') (hn : ¬ S b) : Row w' b l := cells_only h ho hn
theorem Row.later {w w' : World} {b : Nat} {l : List It} (h : Row w b l) (hb : Below w.heap.size w w') : Row w' b l := Cells.later h hb
theorem Row.lt {w : World} {b : Nat} {l : List It} (h : Row w b l) : b < w.heap.size := Cells.lt h
/-- The world with an item put at a place. -/
def put5 (w : World) (b off : Nat) (x : It) : World :=
 ((((w.setCell ⟨b, off, none⟩ (.int .i64 x.cell)).setCell ⟨b, off + 1, none⟩ (.int .i64 x.version)).setCell ⟨b, off + 2, none⟩ (.int .i64 x.value)).setCell ⟨b, off + 3, none⟩ (.bool x.write)).setCell ⟨b, off + 4, none⟩ (.int .i64 x.new)
theorem put5_only (w : World) (b off : Nat) (x : It) : Only (fun i => i = b) w (put5 w b off x) :=
 ((((Only.of_set w ⟨b, off, none⟩ _).trans (Only.of_set _ ⟨b, off + 1, none⟩ _) fun _ _ h => h).trans (Only.of_set _ ⟨b, off + 2, none⟩ _) fun _ _ h => h).trans (Only.of_set _ ⟨b, off + 3, none⟩ _) fun _ _ h => h).trans (Only.of_set _ ⟨b, off + 4, none⟩ _) fun _ _ h => h
theorem flat_set (l : List It) (k : Nat) (x : It) (h : k < l.length) :
  flat (l.set k x) = (((((flat l).set (k * 5) (.int .i64 x.cell)).set (k * 5 + 1) (.int .i64 x.version)).set (k * 5 + 2) (.int .i64 x.value)).set (k * 5 + 3) (.bool x.write)).set (k * 5 + 4) (.int .i64 x.new) := by
 induction l generalizing k with
 | nil => simp at h
 | cons y l ih =>
  cases k with
  | zero =>
   rw [List.set_cons_zero, flat_cons, flat_cons]
   simp [It.vals]
  | succ k =>
   rw [List.set_cons_succ, flat_cons, flat_cons, ih k (by simpa using h)]
   have hlen : y.vals.length = 5 := rfl
   have e : ∀ (m : List Value) (j : Nat) (u : Value), (y.vals ++ m).set ((k + 1) * 5 + j) u = y.vals ++ m.set (k * 5 + j) u := fun m j u => by
    rw [List.set_append_right _ _ (by omega), hlen, show (k + 1) * 5 + j - 5 = k * 5 + j by omega]
   have e0 := e (flat l) 0
   simp only [Nat.add_zero] at e0
   rw [e0, e, e, e, e]
theorem Row.put {w : World} {b : Nat} {l : List It} (h : Row w b l) {k : Nat} (hk : k < l.length) (x : It) : Row (put5 w b (k * 5) x) b (l.set k x) := by
 unfold Row
 rw [flat_set l k x hk]
 exact ((((Cells.set_ h _ _).set_ _ _).set_ _ _).set_ _ _).set_ _ _
/-- Two items exchanged. -/
def swapAt (l : List It) (i k : Nat) (x y : It) : List It := (l.set i y).set k x
/-- While two items of a row are exchanged: which of the two were put. -/
structure swSt (b i k : Nat) (l : List It) (d15 d17 : Bool) (x y : It) (w0 w : World) : Prop where
 row : Row w b (cond d17 (swapAt l i k x y) (cond d15 (l.set i y) l))
 only : Only (fun j => j = b) w0 w
section
variable {b i k : Nat} {l : List It} {d15 d17 : Bool} {x y : It} {w0 w w' : World}
theorem swSt.put1 (h : swSt b i k l false false x y w0 w) (hi : i < l.length) : swSt b i k l true false x y w0 (put5 w b (i * 5) y) :=
 ⟨Row.put (l := l) h.row hi y, h.only.trans (put5_only _ _ _ _) fun _ _ e => e⟩
theorem swSt.put2 (h : swSt b i k l true false x y w0 w) (hk : k < l.length) : swSt b i k l true true x y w0 (put5 w b (k * 5) x) :=
 ⟨Row.put (l := l.set i y) h.row (by rw [List.length_set]; exact hk) x, h.only.trans (put5_only _ _ _ _) fun _ _ e => e⟩
theorem swSt.rest (h : swSt b i k l false d17 x y w0 w) (hd : d17 = false) : Row w b l := by subst hd; exact h.row
end
end Go.Proofs.YtalhbblmnahcdaaGreat.Item
namespace Go.Proofs.YtalhbblmnahcdaaGreat.Mem
open Go.RowKit
variable {P : Program}
theorem Cells.range {w : World} {g : Nat} {t : TypeId} {vs : List Value} (h : Cells w g t vs) : w.rangeAt g 0 vs := fun j v hv => by rw [Nat.zero_add]; exact h.cell hv
theorem Cells.there {w : World} {g : Nat} {t : TypeId} {vs : List Value} (h : Cells w g t vs) {n : Nat} (hn : n ≤ vs.length) : w.there g 0 n := fun j hj => by
 rw [Nat.zero_add]
 exact ⟨by rw [h.cell (List.getElem?_eq_getElem (show j < vs.length by omega))]; rfl, h.frozen (by omega)⟩
/-- A part of a block's cells is written. -/
theorem Cells.put_at {g : Nat} {t : TypeId} : ∀ (l : List Value) (o : Nat) {w : World} {vs : List Value}, Cells w g t vs → o + l.length ≤ vs.length →
  Cells (w.setCells g o l) g t (vs.take o ++ (l ++ vs.drop (o + l.length))) ∧ Only (fun k => k = g) w (w.setCells g o l)
 | [], o, w, vs, h, _ => ⟨by rw [show w.setCells g o [] = w from rfl]; simpa using h, Only.refl _ _⟩
 | v :: r, o, w, vs, h, hl => by
  rw [List.length_cons] at hl
  obtain ⟨h1, h2⟩ := Cells.put_at r (o + 1) (h.set_ o v) (by rw [List.length_set]; omega)
  refine ⟨?_, (Only.of_set w ⟨g, o, none⟩ v).trans h2 fun _ _ e => e⟩
  have e1 : (vs.set o v).take (o + 1) = vs.take o ++ [v] := by
   rw [List.take_succ_eq_append_getElem (by rw [List.length_set]; omega), List.take_set_of_le (Nat.le_refl _)]
   simp
  have e2 : (vs.set o v).drop (o + 1 + r.length) = vs.drop (o + (r.length + 1)) := by
   rw [List.drop_set_of_lt (by omega)]
   congr 1
   omega
  rw [e1, e2] at h1
  rw [List.length_cons]
  show Cells ((w.setCell ⟨g, o, none⟩ v).setCells g (o + 1) r) g t _
  simpa using h1
theorem Cells.put {w : World} {g : Nat} {t : TypeId} {vs l : List Value} (h : Cells w g t vs) (hl : l.length = vs.length) : Cells (w.setCells g 0 l) g t l ∧ Only (fun k => k = g) w (w.setCells g 0 l) := by
 obtain ⟨h1, h2⟩ := Cells.put_at l 0 h (by omega)
 refine ⟨?_, h2⟩
 rw [List.drop_of_length_le (by omega)] at h1
 simpa using h1
/-- A whole struct is stored: the world behind it is known by what it holds alone. -/
theorem wpList_store_cells {ops : Array Oper} {rest : List Oper} {op : Oper} {a : Act} {w : World} {Q : Exit → Act → World → Prop} (hgd : op.guard = none) (ty : TypeId) (x y : Operand) (ho : op.op = .store ty x y)
  (g : Nat) (cells : Array Value) (l : List Value) (hcl : cells.toList = l) (hx : a.eval x = .pointer (some ⟨g, 0, none⟩)) (hy : a.eval y = .agg cells) {t : TypeId} {vs : List Value} (hc : Cells w g t vs) (hlen : l.length = vs.length)
  (hi : (P.info? ty).map (·.size) = some cells.size) (h1 : cells.all (·.oneCell') = true)
  (h : ∀ w', Cells w' g t l → Only (fun k => k = g) w w' → wpList P ops Q rest (a.put op.dst undef) w') : wpList P ops Q (op :: rest) a w := by
 subst hcl
 obtain ⟨h2, h3⟩ := hc.put hlen
 exact wpList_store_mid hgd ty x y ho g 0 cells hx hy (hc.there (by rw [← hlen]; simp)) hi h1 (h _ h2 h3)
/-- A whole struct is loaded. -/
theorem wpList_load_cells {ops : Array Oper} {rest : List Oper} {op : Oper} {a : Act} {w : World} {Q : Exit → Act → World → Prop} (hgd : op.guard = none) (ty : TypeId) (x : Operand) (ho : op.op = .load ty x)
  (g : Nat) (cells : Array Value) (hx : a.eval x = .pointer (some ⟨g, 0, none⟩)) {t : TypeId} {l : List Value} (hcl : l.toArray = cells) (hc : Cells w g t l) {d : TypeDesc} (hu : P.underlying ty = some d) (hd : d.isRow = true)
  (hi : (P.info? ty).map (·.size) = some l.length) (h : wpList P ops Q rest (a.put op.dst (.agg cells)) w) : wpList P ops Q (op :: rest) a w := by
 subst hcl
 exact wpList_load_mid hgd ty x ho g 0 hx l d hc.range hu hd hi h
/-- A struct is loaded. -/
theorem Cells.load {w : World} {g : Nat} {t : TypeId} {vs : List Value} (h : Cells w g t vs) (ty : TypeId) (d : TypeDesc) (hu : P.underlying ty = some d) (hd : d.isRow = true) (hi : (P.info? ty).map (·.size) = some vs.length) :
  (loadVar ty ⟨g, 0, none⟩).run P w = .ok (.agg vs.toArray) w := run_loadVar_mid w g 0 ty vs d h.range hu hd hi
/-- What is returned: a struct's variable, and a slot. -/
theorem ret_cell_tmp {fn : Func} {p q : Tmp} {ty : TypeId} (hf : fn.results = #[.cell p ty, .tmp q]) (tmps : Array Value) {w : World} {g : Nat} {t : TypeId} {vs : List Value} (h : Cells w g t vs) (d : TypeDesc)
  (hp : tmps.getD p undef = .pointer (some ⟨g, 0, none⟩)) (hu : P.underlying ty = some d) (hd : d.isRow = true) (hi : (P.info? ty).map (·.size) = some vs.length) :
  (results fn tmps).run P w = .ok (.tuple #[.agg vs.toArray, tmps.getD q undef]) w := by
 have hp' : tmps[p]?.getD undef = .pointer (some ⟨g, 0, none⟩) := by simpa using hp
 have hl := h.load (P := P) ty d hu hd hi
 simp [results, hf, hp', asAddr, hl]
/-- What is returned: a struct's variable. -/
theorem ret_cell {fn : Func} {p : Tmp} {ty : TypeId} (hf : fn.results = #[.cell p ty]) (tmps : Array Value) {w : World} {g : Nat} {t : TypeId} {vs : List Value} (h : Cells w g t vs) (d : TypeDesc)
  (hp : tmps.getD p undef = .pointer (some ⟨g, 0, none⟩)) (hu : P.underlying ty = some d) (hd : d.isRow = true) (hi : (P.info? ty).map (·.size) = some vs.length) :
  (results fn tmps).run P w = .ok (.agg vs.toArray) w := by
 have hp' : tmps[p]?.getD undef = .pointer (some ⟨g, 0, none⟩) := by simpa using hp
 have hl := h.load (P := P) ty d hu hd hi
 simp [results, hf, hp', asAddr, hl]
end Go.Proofs.YtalhbblmnahcdaaGreat.Mem
namespace Go.Proofs.YtalhbblmnahcdaaGreat.Led
set_option maxRecDepth 100000
open Go.RowKit Go.Proofs.YtalhbblmnahcdaaGreat.Mem Go.Proofs.YtalhbblmnahcdaaGreat.Item Go.Proofs.YtalhbblmnahcdaaGreat.Rec
/-- A slice of structs of sz cells: their cells lie there. -/
def Sl (w : World) (A : Option Addr) (sz : Nat) (vs : List (List Value)) : Prop := ∀ k (h : k < vs.length), ∃ b off, A = some ⟨b, off, none⟩ ∧ w.rangeAt b (off + k * sz) vs[k]
theorem range_later {w w' : World} {b o : Nat} {cs : List Value} (h : w.rangeAt b o cs) (hb : Below w.heap.size w w') : w'.rangeAt b o cs := fun j v hv => (hb.cell (block_of_cell (h j v hv))).trans (h j v hv)
theorem Sl.later {w w' : World} {A : Option Addr} {sz : Nat} {vs : List (List Value)} (h : Sl w A sz vs) (hb : Below w.heap.size w w') : Sl w' A sz vs := fun k hk => by
  obtain ⟨b, off, e, hr⟩ := h k hk
  exact ⟨b, off, e, range_later hr hb⟩
theorem sl_nil (w : World) (A : Option Addr) (sz : Nat) : Sl w A sz [] := fun k hk => absurd hk (by simp)
/-- The first place at which a list of answers says yes; -1: none. -/
def idxB (bs : List Bool) : Int := match bs.findIdx? (fun b => b) with | some i => (i : Int) | none => -1
theorem idxB_at {bs : List Bool} {k : Nat} (hk : k < bs.length) (h0 : ∀ j (hj : j < k), (bs[j]'(by omega)) = false) (h1 : bs[k] = true) : idxB bs = (k : Int) := by
  unfold idxB
  have e : bs.findIdx? (fun b => b) = some k := by
    rw [List.findIdx?_eq_some_iff_getElem]
    exact ⟨hk, h1, fun j hj => by rw [h0 j hj]; exact Bool.false_ne_true⟩
  rw [e]
theorem idxB_none {bs : List Bool} (h : ∀ j (hj : j < bs.length), bs[j] = false) : idxB bs = -1 := by
  unfold idxB
  have e : bs.findIdx? (fun b => b) = none := by
    rw [List.findIdx?_eq_none_iff]
    intro x hx
    obtain ⟨j, hj, rfl⟩ := List.mem_iff_getElem.1 hx
    exact h j hj
  rw [e]
theorem idxB_nonneg (bs : List Bool) : decide (0 ≤ idxB bs) = bs.any (fun b => b) := by
  unfold idxB
  cases h : bs.findIdx? (fun b => b) with
  | none =>
    have := List.findIdx?_eq_none_iff.1 h
    have e : bs.any (fun b => b) = false := by rw [List.any_eq_false]; intro x hx; rw [this x hx]; exact Bool.false_ne_true
    rw [e]
    rfl
  | some i =>
    obtain ⟨hi, hp, _⟩ := List.findIdx?_eq_some_iff_getElem.1 h
    have e : bs.any (fun b => b) = true := List.any_eq_true.2 ⟨bs[i], List.getElem_mem hi, hp⟩
    rw [e]
    exact decide_eq_true (Int.natCast_nonneg i)
instance tidEq : DecidableEq Tid := fun a b => decidable_of_iff (a.node = b.node ∧ a.epoch = b.epoch ∧ a.seq = b.seq) ⟨fun h => by obtain ⟨a1, a2, a3⟩ := a; obtain ⟨b1, b2, b3⟩ := b; obtain ⟨rfl, rfl, rfl⟩ := h; rfl, fun h => by subst h; exact ⟨rfl, rfl, rfl⟩⟩
/-- A cell's place. -/
structure Pl where
  status : Int
  hop : Int
  to : Int
  version : Int
  value : Int
deriving DecidableEq
def Pl.vals (p : Pl) : List Value := [.int .i64 p.status, .int .i64 p.hop, .int .i64 p.to, .int .i64 p.version, .int .i64 p.value]
def pl0 : Pl := ⟨0, 0, 0, 0, 0⟩
/-- A transaction that is prepared. -/
structure Pr where
  tid : Tid
  items : List It
  nodes : List Int
deriving DecidableEq
def Pr.vals (p : Pr) (y : Lay) : List Value := [.int .i64 p.tid.node, .int .i64 p.tid.epoch, .int .i64 p.tid.seq, .slice y.A p.items.length y.c, .slice y.B p.nodes.length y.d]
/-- A transaction that is decided. -/
structure De where
  tid : Tid
  yes : Bool
deriving DecidableEq
def De.vals (d : De) : List Value := [.int .i64 d.tid.node, .int .i64 d.tid.epoch, .int .i64 d.tid.seq, .bool d.yes]
/-- A transaction that the node committed. -/
structure Co where
  tid : Tid
  items : List It
  nodes : List Int
  over : Bool
deriving DecidableEq
def Co.vals (c : Co) (y : Lay) : List Value := [.int .i64 c.tid.node, .int .i64 c.tid.epoch, .int .i64 c.tid.seq, .slice y.A c.items.length y.c, .slice y.B c.nodes.length y.d, .bool c.over]
/-- What records come to. -/
structure St where
  node : Int
  nodes : Int
  cells : Int
  epoch : Int
  places : List Pl
  prep : List Pr
  dec : List De
  com : List Co
deriving DecidableEq
/-- Where a state's lists lie. -/
structure Sy where
  P : Option Addr
  p : Nat
  Q : Option Addr
  q : Nat
  D : Option Addr
  d : Nat
  C : Option Addr
  c : Nat
  ps : List Lay
  cs : List Lay
def St.vals (s : St) (y : Sy) : List Value := [.int .i64 s.node, .int .i64 s.nodes, .int .i64 s.cells, .int .i64 s.epoch, .slice y.P s.places.length y.p, .slice y.Q s.prep.length y.q, .slice y.D s.dec.length y.d, .slice y.C s.com.length y.c]
def St.val (s : St) (y : Sy) : Value := .agg #[.int .i64 s.node, .int .i64 s.nodes, .int .i64 s.cells, .int .i64 s.epoch, .slice y.P s.places.length y.p, .slice y.Q s.prep.length y.q, .slice y.D s.dec.length y.d, .slice y.C s.com.length y.c]
/-- Two lists that lie there. -/
def Two (w : World) (x : List It) (n : List Int) (y : Lay) : Prop := Items w y.A x ∧ Nums w y.B n ∧ (y.A = none → y.c = 0) ∧ (y.B = none → y.d = 0)
theorem Two.later {w w' : World} {x : List It} {n : List Int} {y : Lay} (h : Two w x n y) (hb : Below w.heap.size w w') : Two w' x n y := ⟨h.1.later hb, h.2.1.later hb, h.2.2⟩
/-- A state's lists lie there. -/
structure Sees (w : World) (s : St) (y : Sy) : Prop where
  places : Sl w y.P 5 (s.places.map Pl.vals)
  prep : Sl w y.Q 5 (List.zipWith Pr.vals s.prep y.ps)
  dec : Sl w y.D 4 (s.dec.map De.vals)
  com : Sl w y.C 6 (List.zipWith Co.vals s.com y.cs)
  ps : y.ps.length = s.prep.length
  cs : y.cs.length = s.com.length
  pin : ∀ k (h : k < s.prep.length) (h' : k < y.ps.length), Two w s.prep[k].items s.prep[k].nodes y.ps[k]
  cin : ∀ k (h : k < s.com.length) (h' : k < y.cs.length), Two w s.com[k].items s.com[k].nodes y.cs[k]
  capP : y.P = none → y.p = 0
  capQ : y.Q = none → y.q = 0
  capD : y.D = none → y.d = 0
  capC : y.C = none → y.c = 0
theorem Sees.later {w w' : World} {s : St} {y : Sy} (h : Sees w s y) (hb : Below w.heap.size w w') : Sees w' s y :=
  ⟨h.places.later hb, h.prep.later hb, h.dec.later hb, h.com.later hb, h.ps, h.cs, fun k h1 h2 => (h.pin k h1 h2).later hb, fun k h1 h2 => (h.cin k h1 h2).later hb, h.capP, h.capQ, h.capD, h.capC⟩
/-- Is there such a cell? -/
def hasC (s : St) (c : Int) : Bool := decide (0 ≤ c) && decide (c < (s.places.length : Int))
theorem hasC_iff (s : St) (c : Int) : hasC s c = true ↔ 0 ≤ c ∧ c < (s.places.length : Int) := by unfold hasC; simp
def plAt (s : St) (c : Int) : Pl := (s.places[c.toNat]?).getD pl0
def owns (s : St) (c : Int) : Bool := hasC s c && decide ((plAt s c).status = 1)
theorem has_any (s : St) (y : Sy) (c : Int) (w : World) :
    Calls Tryz.prog 42 #[s.val y, .int .i64 c] w fun e w' => e = .returned (.bool (hasC s c)) ∧ Below w.heap.size w w' := by
  have hb1 := below_alloc w (.cells #[.int .i64 s.node, .int .i64 s.nodes, .int .i64 s.cells, .int .i64 s.epoch, .slice y.P s.places.length y.p, .slice y.Q s.prep.length y.q, .slice y.D s.dec.length y.d, .slice y.C s.com.length y.c] 32)
  have HB := Lib.hid hb1
  clear hb1
  unfold St.val hasC
  by_cases h0 : 0 ≤ c
  · rw [decide_eq_true h0, Bool.true_and]
    go_enter Tryz.func42, Tryz.ntmps42
    go_wp2_with fail
    go_returns
    exact ⟨rfl, HB.out⟩
  · rw [decide_eq_false h0, Bool.false_and]
    go_enter Tryz.func42, Tryz.ntmps42
    go_wp2_with fail
    go_returns
    exact ⟨rfl, HB.out⟩
theorem room_any (s : St) (y : Sy) (w : World) (h1 : s.prep.length ≤ 1000000) (h2 : s.dec.length ≤ 1000000) :
    Calls Tryz.prog 100 #[s.val y] w fun e w' => e = .returned (.bool (decide (((s.prep.length : Int) + (s.dec.length : Int)) < 512))) ∧ Below w.heap.size w w' := by
  have hb1 := below_alloc w (.cells #[.int .i64 s.node, .int .i64 s.nodes, .int .i64 s.cells, .int .i64 s.epoch, .slice y.P s.places.length y.p, .slice y.Q s.prep.length y.q, .slice y.D s.dec.length y.d, .slice y.C s.com.length y.c] 32)
  have HB := Lib.hid hb1
  clear hb1
  unfold St.val
  go_enter Tryz.func100, Tryz.ntmps100
  go_wp2_with fail
  go_returns
  exact ⟨rfl, HB.out⟩
end Go.Proofs.YtalhbblmnahcdaaGreat.Led
