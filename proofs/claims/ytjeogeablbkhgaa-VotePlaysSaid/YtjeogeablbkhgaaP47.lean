/-
  Layer 19's laws: operations that came in; a map from ints to Booleans of the law's own.
  Conditions: none.
-/
import Derived.Test.YtjeogeablbkhgaaP45
import Derived.Test.YtjeogeablbkhgaaP46
namespace Go.Proofs.Ytjeogeablbkhgaa.Vot
set_option maxRecDepth 100000
open Go.ChangeShapes Go.WideShapes Go.ChangeAt Go.RowKit Go.Deep Go.ChangeMaps Go.MapKept Go.Proofs.Ytjeogeablbkhgaa.Mem Go.Proofs.Ytjeogeablbkhgaa.Item
/-- The law's own map holds this function. -/
def MB (w : World) (b : Nat) (Y : Int → Bool) : Prop := ∃ n R, KM Try.prog 3 w b n R ∧ (∀ k v, R k v → ∃ m : Int, k = .int .i64 m ∧ v = .bool (Y m)) ∧ ∀ m : Int, Y m = true → ∃ v, R (.int .i64 m) v
theorem int_key : Go.Maps.Keyed Try.prog 3 := Go.Maps.int_keyed Try.underlying3
theorem wf_n {n : Int} (h1 : 0 ≤ n) (h2 : n ≤ 1000) : keyOf Try.prog 3 (.int .i64 n) = some (.int .i64 n) := by
 refine Go.Maps.keyOf_int_mk Try.underlying3 ?_
 have e1 : IntKind.i64.min = -9223372036854775808 := rfl
 have e2 : IntKind.i64.max = 9223372036854775807 := rfl
 simp only [Lit.wf, Bool.and_eq_true, decide_eq_true_eq, e1, e2]
 omega
section
variable {w w' : World} {b : Nat} {Y : Int → Bool}
theorem MB.only {S : Nat → Prop} (h : MB w b Y) (ho : Only S w w') (hn : ¬ S b) : MB w' b Y := by
 obtain ⟨n, R, h, h2⟩ := h
 exact ⟨n, R, h.only ho hn, h2⟩
theorem MB.later (h : MB w b Y) (hb : Below w.heap.size w w') : MB w' b Y := h.only (S := fun _ => False) (Only.of_below hb) fun e => e
theorem MB.lt (h : MB w b Y) : b < w.heap.size := by
 obtain ⟨n, R, h, _⟩ := h
 exact h.lt
theorem MB.look (h : MB w b Y) {m : Int} (h1 : 0 ≤ m) (h2 : m ≤ 1000) : (Instr.lookup 53 (.map (some b)) (.int .i64 m) false).run Try.prog w = .ok (.bool (Y m)) w := by
 obtain ⟨n, R, h, h3, h4⟩ := h
 rcases h.look int_key Try.underlying53 (z := .bool false) (Try.zeroValue4 w) (wf_n h1 h2) false with ⟨v, hv, e⟩ | ⟨hno, e⟩
 ·obtain ⟨m', e1, rfl⟩ := h3 _ _ hv
  simp only [Value.int.injEq, true_and] at e1
  subst e1
  exact e
 ·cases hy : Y m with
  | true =>
   obtain ⟨v, hv⟩ := h4 m hy
   exact absurd hv (hno v)
  | false => exact e
theorem MB.store (h : MB w b Y) {m : Int} (h1 : 0 ≤ m) (h2 : m ≤ 1000) (z : Bool) : ∃ w', (Instr.mapUpdate 53 (.map (some b)) (.int .i64 m) (.bool z)).run Try.prog w = .ok () w' ∧ MB w' b (fun x => if x = m then z else Y x) ∧ Only (fun k => k = b) w w' := by
 obtain ⟨n, R, h, h3, h4⟩ := h
 obtain ⟨w', e1, e2, e3⟩ := h.store int_key Try.underlying53 (val := .bool z) (wf_n h1 h2)
 refine ⟨w', e1, ⟨_, _, e2, fun k v => ?_, fun x hx => ?_⟩, e3⟩
 ·rintro (⟨rfl, rfl⟩ | ⟨hne, hr⟩)
  ·exact ⟨m, rfl, by simp⟩
  ·obtain ⟨x, rfl, rfl⟩ := h3 k v hr
   have hx : x ≠ m := fun e => hne (by rw [e])
   exact ⟨x, rfl, by simp [hx]⟩
 ·dsimp only at hx
  by_cases e : x = m
  ·rw [e]
   exact ⟨_, Or.inl ⟨rfl, rfl⟩⟩
  ·rw [if_neg e] at hx
   obtain ⟨v, hv⟩ := h4 x hx
   exact ⟨v, Or.inr ⟨fun e2 => e (by simpa using e2), hv⟩⟩
end
/-- An operation of a script. -/
structure Opv where
 k : Int
 n : Int
 y : Bool
 A : Option Addr
 ac : Nat
 l : List Int
def Opv.vals (o : Opv) : List Value := [.int .i64 o.k, .int .i64 o.n, .bool o.y, .slice o.A o.l.length o.ac]
structure Opv.Ok (w : World) (o : Opv) : Prop where
 is : IRow w o.A o.l
 len : o.l.length ≤ 140737488351232
theorem Opv.Ok.later {w w' : World} {o : Opv} (h : o.Ok w) (hb : Below w.heap.size w w') : o.Ok w' := ⟨h.is.later hb, h.len⟩
theorem irow_lt {w : World} {A : Option Addr} {l : List Int} (h : IRow w A l) (hne : l ≠ []) {k : Nat} (e : blk A = some k) : k < w.heap.size := by
 obtain ⟨b, off, e2, hc⟩ := h 0 (List.length_pos_iff.2 hne)
 subst e2
 have e3 : b = k := Option.some.inj e
 subst e3
 exact block_of_cell hc
section
variable {H : Type} {enc : TypeId × Value → H} {W : World}
theorem cellsOp : Try.prog.cellsOf 39 = 4 := by kernel_rfl
theorem came_op {cs : List Value} (h : CameS Try.prog enc W 39 cs) : ∃ o : Opv, cs = o.vals ∧ o.Ok W := by
 obtain ⟨f0, f1, f2, f3, hst, e0, e1, e2, e3, o0, o1, o2, o3⟩ : ∃ f0 f1 f2 f3 : Field, Try.prog.underlying 39 = some (.struct #[f0, f1, f2, f3]) ∧ f0.type = 3 ∧ f1.type = 3 ∧ f2.type = 4 ∧ f3.type = 37 ∧ f0.offset = 0 ∧ f1.offset = 1 ∧ f2.offset = 2 ∧ f3.offset = 3 :=
  ⟨_, _, _, _, Try.underlying39, rfl, rfl, rfl, rfl, rfl, rfl, rfl, rfl⟩
 obtain ⟨hlen, hf⟩ := h.fields hst
 rw [cellsOp] at hlen
 match cs, hlen with
 | [c0, c1, c2, c3], _ =>
  have g0 := hf 0 f0 rfl
  have g1 := hf 1 f1 rfl
  have g2 := hf 2 f2 rfl
  have g3 := hf 3 f3 rfl
  rw [e0, o0, cellsInt] at g0
  rw [e1, o1, cellsInt] at g1
  rw [e2, o2, cellsBool] at g2
  rw [e3, o3, cellsInts] at g3
  obtain ⟨x0, rfl⟩ := cameS_int g0
  obtain ⟨x1, rfl⟩ := cameS_int g1
  obtain ⟨x2, rfl⟩ := cameS_bool g2
  have g6 : CameS Try.prog enc W 37 [c3] := g3
  obtain ⟨A2, vs2, cap2, rfl, k1, k2, k3, k4⟩ := g6.one.rowsS Try.underlying37 (of_decide_eq_true (by kernel_rfl)) (of_decide_eq_true (by kernel_rfl))
  obtain ⟨l2, rfl, _⟩ := came_each (vals := fun c : Int => [Value.int .i64 c]) (ok := fun _ => True) (fun v hv => (k4 v hv).2) fun v hv => by
   obtain ⟨n, y, q1, q2⟩ := hv
   obtain ⟨x, e, _, hw⟩ := DataW.trod_int Try.underlying3 q1
   exact ⟨x, e, trivial⟩
  rw [cellsInt] at k1
  rw [List.length_map] at k2
  refine ⟨⟨x0, x1, x2, A2, cap2, l2⟩, ?_, fun i hi => ?_, k2⟩
  ·unfold Opv.vals
   rw [List.length_map]
  ·dsimp only at hi ⊢
   obtain ⟨b, off, e, hr⟩ := k1 i (by rw [List.length_map]; exact hi)
   rw [List.getElem_map] at hr
   have h5 := hr 0 _ rfl
   rw [Nat.mul_one, Nat.add_zero] at h5
   exact ⟨b, off, e, h5⟩
/-- The slice whose first cell is at A holds these operations. -/
def Opvs (w : World) (A : Option Addr) (os : List Opv) : Prop := Sl w A 4 (os.map Opv.vals) ∧ ∀ o ∈ os, o.Ok w
theorem Opvs.later {w w' : World} {A : Option Addr} {os : List Opv} (h : Opvs w A os) (hb : Below w.heap.size w w') : Opvs w' A os := ⟨h.1.later hb, fun o ho => (h.2 o ho).later hb⟩
theorem Opvs.at {w : World} {A : Option Addr} {os : List Opv} (h : Opvs w A os) {k : Nat} (hk : k < os.length) : ∃ g off, A = some ⟨g, off, none⟩ ∧ w.rangeAt g (off + k * 4) os[k].vals := by
 obtain ⟨g, off, e, hr⟩ := h.1 k (by rw [List.length_map]; exact hk)
 rw [List.getElem_map] at hr
 exact ⟨g, off, e, hr⟩
theorem came_ops {c : Value} (h : Came Try.prog enc W 25 c) : ∃ (A : Option Addr) (os : List Opv) (cap : Nat), c = .slice A os.length cap ∧ Opvs W A os ∧ os.length ≤ 140737488351232 := by
 obtain ⟨A, vs, cap, rfl, h1, h2, h3, h4⟩ := h.rowsS Try.underlying25 (of_decide_eq_true (by kernel_rfl)) (of_decide_eq_true (by kernel_rfl))
 obtain ⟨l, rfl, hl⟩ := came_each (vals := Opv.vals) (ok := fun o => o.Ok W) (fun v hv => (h4 v hv).2) fun v hv => came_op hv
 rw [cellsOp] at h1
 rw [List.length_map] at h2 ⊢
 exact ⟨A, l, cap, rfl, ⟨h1, hl⟩, h2⟩
end
/-- What a law knows of a ballot: what each part voted, and whether one voted no. -/
structure VS (ns : List Int) (ab : Bool) (l : List Sd) (no : Bool) (Y : Int → Bool) : Prop where
 nodes : l.map (·.node) = ns
 yes : ∀ x ∈ l, x.yes = Y x.node
 no : no = true → ab = true
theorem has_nodes {l m : List Sd} (h : l.map (·.node) = m.map (·.node)) (n : Int) : hasN n l = hasN n m := by
 have e : ∀ l : List Sd, hasN n l = (l.map (·.node)).any fun x => decide (x = n) := fun l => by
  unfold hasN
  rw [List.any_map]
  rfl
 rw [e, e, h]
def noV (no : Bool) (y : Bool) (n : Int) (ps : List Sd) : Bool := no || (!y && hasN n ps)
def yesV (Y : Int → Bool) (y : Bool) (n : Int) (ps : List Sd) : Int → Bool := fun x => Y x || (decide (x = n) && y && hasN n ps)
theorem VS.vote {ab : Bool} {l ps : List Sd} {no : Bool} {Y : Int → Bool} (h : VS (ps.map (·.node)) ab l no Y) (h0 : stC ab l = 0) (n : Int) (y : Bool) : VS (ps.map (·.node)) (voteA ab (stC ab l) n y l) (voteL (stC ab l) n y l) (noV no y n ps) (yesV Y y n ps) := by
 have hh := has_nodes h.nodes n
 rw [h0]
 refine ⟨?_, fun x hx => ?_, fun e => ?_⟩
 ·unfold voteL
  split
  ·rw [say_nodes]; exact h.nodes
  ·exact h.nodes
 ·unfold voteL at hx
  unfold yesV
  cases y with
  | true =>
   rw [if_pos ⟨rfl, rfl⟩] at hx
   obtain ⟨z, hz, rfl⟩ := List.mem_map.1 hx
   unfold Sd.say
   split
   ·rename_i e
    have : hasN n ps = true := by rw [← hh]; unfold hasN; rw [List.any_eq_true]; exact ⟨z, hz, by simpa using e⟩
    unfold Sd.setY
    simp [this, e]
   ·rename_i e
    rw [h.yes z hz]
    simp [e]
  | false =>
   rw [if_neg fun e => by cases e.2] at hx
   rw [h.yes x hx]
   simp
 ·unfold noV at e
  unfold voteA
  rw [hh]
  cases no with
  | true => rw [h.no rfl]; rfl
  | false =>
   rw [Bool.false_or] at e
   rw [decide_eq_true rfl, Bool.true_and, e, Bool.or_true]
theorem akns_mem {ns : List Int} : ∀ {l : List Sd} {x : Sd}, x ∈ aknsL ns l → ∃ z ∈ l, x.node = z.node ∧ x.yes = z.yes := by
 unfold aknsL
 induction ns with
 | nil => intro l x h; exact ⟨x, h, rfl, rfl⟩
 | cons n ns ih =>
  intro l x h
  rw [List.foldl_cons] at h
  obtain ⟨z, hz, e1, e2⟩ := ih h
  obtain ⟨u, hu, rfl⟩ := List.mem_map.1 hz
  refine ⟨u, hu, ?_, ?_⟩
  ·rw [e1]; unfold Sd.akn Sd.setK; split <;> rfl
  ·rw [e2]; unfold Sd.akn Sd.setK; split <;> rfl
theorem akns_nodes (ns : List Int) : ∀ (l : List Sd), (aknsL ns l).map (·.node) = l.map (·.node) := by
 unfold aknsL
 induction ns with
 | nil => intro l; rfl
 | cons n ns ih => intro l; rw [List.foldl_cons, ih, akn_nodes]
theorem VS.ack {ns : List Int} {ab : Bool} {l : List Sd} {no : Bool} {Y : Int → Bool} (h : VS ns ab l no Y) (s : Int) (is : List Int) : VS ns ab (ackL s is l) no Y := by
 unfold ackL
 split
 ·refine ⟨by rw [akns_nodes]; exact h.nodes, fun x hx => ?_, h.no⟩
  obtain ⟨z, hz, e1, e2⟩ := akns_mem hx
  rw [e1, e2]
  exact h.yes z hz
 ·exact h
theorem VS.all {ps l : List Sd} {ab no : Bool} {Y : Int → Bool} (h : VS (ps.map (·.node)) ab l no Y) : (ps.all fun p => Y p.node) = allY l := by
 have e : ∀ m : List Sd, (m.all fun p => Y p.node) = (m.map (·.node)).all Y := fun m => by rw [List.all_map]; rfl
 rw [e, ← h.nodes, ← e]
 unfold allY
 rw [Bool.eq_iff_iff, List.all_eq_true, List.all_eq_true]
 constructor
 ·intro h1 x hx; rw [h.yes x hx]; exact h1 x hx
 ·intro h1 x hx; rw [← h.yes x hx]; exact h1 x hx
end Go.Proofs.Ytjeogeablbkhgaa.Vot
