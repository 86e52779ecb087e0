/- Part 4 of the proof. Conditions: none. -/
import Derived.Test.YtdkchpiinelmiaaGreatZ3
import Derived.Deep.DeepHandedRow
import Derived.Lib.SmallJoins
namespace Go.Proofs.YtdkchpiinelmiaaGreat.Base
open Go.ChangeShapes Go.WideShapes Go.ChangeAt Go.RowKit
theorem own : ownKnob Tryz.prog.godebug = none := by kernel_rfl
theorem laidOut : laidOutB Tryz.prog = true := by kernel_rfl
noncomputable def lN (os : Os) : World := World.holding Tryz.prog os ⟨#[], #[], []⟩
section
variable {H : Type} {enc : TypeId × Value -> H} {P : Program}
theorem uy (hl : laidOutB P = true) {W W' : World} (hb : Below W.heap.size W W') : ∀ {ts : List TypeId} {vs : List Value} {ds : List (DataW H)} {ps : List MemPlace},
  (∀ t ∈ ts, P.readableRec t = true /\ t < P.types.size) -> DataW.TrodAll enc P W 0 (fun _ => true) true ts vs ds ps -> (∀ x ∈ ps, x.block < W.heap.size) ->
  DataW.TrodAll enc P W' 0 (fun b => decide (b < W.heap.size)) true ts vs ds ps := by
 intro ts
 induction ts with
 | nil =>
  intro vs ds ps _ h _; obtain ⟨rfl, rfl, rfl⟩ := trodAll_nil h; exact trodAll_mk0
 | cons t ts ih =>
  intro vs ds ps hr h hlt; obtain ⟨v, vs', d, ds', p, q, rfl, rfl, rfl, h0, r0⟩ := trodAll_cons h; obtain ⟨h1, h2⟩ := hr t (List.mem_cons_self ..); exact trodAll_cons_mk (Below.trod hl h1 h2 h0 hb fun x hx => hlt x (List.mem_append_left _ hx)) (ih (fun t ht => hr t (List.mem_cons_of_mem _ ht)) r0 fun x hx => hlt x (List.mem_append_right _ hx))
theorem Ij {f : Func} {s : ChangeSpec} {apart fresh handsOn : Bool} {W W' : World} {args : Array Value} {ds gs : List (DataW H)} {before : List MemPlace} {tb : TypeId}
  (hl : laidOutB P = true) (hr : f.params.toList.all (fun t => P.readableRec t && decide (t < P.types.size)) = true) (hres : f.resultTypes = #[tb]) (htb : P.underlying tb = some .bool) (hvars : s.vars = [])
  (hfn : ∀ l : List (DataW H), l.length = f.params.size -> s.fn H (l ++ []) = { results := [.lit (.bool true)], args := l }) (hlen : ds.length = f.params.size)
  (hW : DataW.Whole enc P f.params.toList s.vars apart W args.toList ds gs before) (hb : Below W.heap.size W W') :
  s.post enc P f apart fresh handsOn false W args (.bool true) W' := by
 have hW0 := hW; obtain ⟨p, q, hA, hV, rfl, _, _⟩ := hW; rw [hvars] at hV; obtain ⟨rfl, rfl⟩ := trodVars_none hV; have hlt : ∀ x ∈ p, x.block < W.heap.size := fun x hx => by simpa using hW0.lt x (List.mem_append_left _ hx)
 have e := hfn ds hlen; refine ⟨ds, [], _, [], p, [], hW0, ?_, ?_, ?_, hb.frame _, fun h => by cases h⟩
 ·rw [e, hres]
  exact trodAll_mk1 (shut_bool htb true)
 ·rw [e]
  exact uy hl hb (fun t ht => by simpa using List.all_eq_true.1 hr t ht) hA hlt
 rw [e, hvars]
 rfl
end
end Go.Proofs.YtdkchpiinelmiaaGreat.Base
namespace Go.Proofs.YtdkchpiinelmiaaGreat.Mem
open Go.RowKit
structure Only (S : Nat -> Prop) (w w' : World) : Prop where
 os : w'.os = w.os
 tape : w'.tape = w.tape
 output : w'.output = w.output
 size : w.heap.size <= w'.heap.size
 block : ∀ k, k < w.heap.size -> ¬ S k -> w'.heap[k]? = w.heap[k]?
theorem Only.refl (S : Nat -> Prop) (w : World) : Only S w w := ⟨rfl, rfl, rfl, Nat.le_refl _, fun _ _ _ => rfl⟩
theorem Only.trans {S S' : Nat -> Prop} {a b c : World} (h : Only S a b) (k : Only S' b c) (hs : ∀ i, i < a.heap.size -> S' i -> S i) : Only S a c :=
 ⟨k.os.trans h.os, k.tape.trans h.tape, k.output.trans h.output, Nat.le_trans h.size k.size, fun i hi hn => (k.block i (Nat.lt_of_lt_of_le hi h.size) fun h' => hn (hs i hi h')).trans (h.block i hi hn)⟩
theorem Only.of_below {S : Nat -> Prop} {w w' : World} (h : Below w.heap.size w w') : Only S w w' := ⟨h.os, h.tape, h.output, h.size, fun k hk _ => h.block k hk⟩
theorem Only.below {S : Nat -> Prop} {w w' : World} {B : Nat} (h : Only S w w') (hB : B <= w.heap.size) (hS : ∀ k, S k -> B <= k) : Below B w w' :=
 ⟨h.os, h.tape, h.output, h.size, fun k hk => h.block k (by omega) fun hs => by have := hS k hs; omega⟩
theorem Only.mono {S S' : Nat -> Prop} {w w' : World} (h : Only S w w') (hs : ∀ k, k < w.heap.size -> S k -> S' k) : Only S' w w' :=
 ⟨h.os, h.tape, h.output, h.size, fun k hk hn => h.block k hk fun h' => hn (hs k hk h')⟩
theorem Only.fP {w w' : World} {r : Option Nat} (h : w.grownBy w' r) : Only (fun k => some k = r) w w' := ⟨h.os, h.tape, h.output, h.size, fun k hk hn => h.block k hk hn⟩
theorem Only.b_ (w : World) (p : Addr) (u : Value) : Only (fun k => k = p.block) w (w.setCell p u) := ⟨rfl, rfl, rfl, by simp [World.setCell], fun k _ hn => Below.heap_setCell w p u k hn⟩
theorem aJ {S : Nat -> Prop} {w w' : World} {g : Nat} {t : TypeId} {vs : List Value} (h : Cells w g t vs) (ho : Only S w w') (hn : ¬ S g) : Cells w' g t vs := by
 have hlt := h.lt; obtain ⟨C, lo, hi, h1, h2⟩ := h; exact ⟨C, lo, hi, (ho.block g hlt hn).trans h1, h2⟩
theorem aF {S : Nat -> Prop} {w w' : World} {base : Nat} {e : TypeId} {size : Nat} {v : Value} {n : Nat} {xs : List Value} (h : w.ownsRow base e size v n xs) (ho : Only S w w') (hn : ∀ k, v.ownBlock = some k -> ¬ S k) : w'.ownsRow base e size v n xs := by
 refine ⟨h.1, ?_⟩; rcases h.2 with hx | ⟨g, cap, cur, rfl, hb, hg, rest⟩
 ·exact .inl hx
 exact .inr ⟨g, cap, cur, rfl, hb, (ho.block g (lt_of_block hg) (hn g rfl)).trans hg, rest⟩
end Go.Proofs.YtdkchpiinelmiaaGreat.Mem
namespace Go.Proofs.YtdkchpiinelmiaaGreat.fN
set_option maxRecDepth 100000
open Go.ChangeShapes Go.WideShapes Go.ChangeAt Go.RowKit Go.Deep Mem
theorem aG {a b : Bool} (h : a = b) : Ending.returned (.bool b) = .returned (.bool a) := by rw [h]
structure It where
 cell : Int
 version : Int
 value : Int
 write : Bool
 new : Int
deriving DecidableEq
def It.vals (x : It) : List Value := [.int .i64 x.cell, .int .i64 x.version, .int .i64 x.value, .bool x.write, .int .i64 x.new]
def It.val (x : It) : Value := .agg #[.int .i64 x.cell, .int .i64 x.version, .int .i64 x.value, .bool x.write, .int .i64 x.new]
def lW (n : Int) : Prop := -9223372036854775808 <= n /\ n <= 9223372036854775807
def It.ok (x : It) : Prop := lW x.cell /\ lW x.version /\ lW x.value /\ lW x.new
def cT.ok (t : cT) : Prop := lW t.node /\ lW t.epoch /\ lW t.seq
def it0 : It := ⟨0, 0, 0, false, 0⟩
theorem G1 (x : It) : ∀ u ∈ x.vals, u.oneCell' = true := by
 intro u hu; unfold It.vals at hu; simp only [List.mem_cons, List.not_mem_nil, or_false] at hu; rcases hu with rfl | rfl | rfl | rfl | rfl <;> rfl
theorem jT {x : Int} (h : (Lit.int .i64 x).wf = true) : lW x := by
 have h1 : IntKind.i64.min = -9223372036854775808 := rfl; have h2 : IntKind.i64.max = 9223372036854775807 := rfl; simp only [Lit.wf, Bool.and_eq_true, decide_eq_true_eq, h1, h2] at h; exact h
structure vL (w : World) (b off : Nat) (x : It) : Prop where
 cell : w.cell? ⟨b, off, none⟩ = some (iv x.cell)
 version : w.cell? ⟨b, off + 1, none⟩ = some (iv x.version)
 value : w.cell? ⟨b, off + 2, none⟩ = some (iv x.value)
 write : w.cell? ⟨b, off + 3, none⟩ = some (.bool x.write)
 new : w.cell? ⟨b, off + 4, none⟩ = some (iv x.new)
theorem vL.lt {w : World} {b off : Nat} {x : It} (h : vL w b off x) : b < w.heap.size := aH h.cell
theorem vL.below {w w' : World} {b off B : Nat} {x : It} (h : vL w b off x) (hb : Below B w w') (hB : b < B) : vL w' b off x :=
 ⟨(hb.cell hB).trans h.cell, (hb.cell hB).trans h.version, (hb.cell hB).trans h.value, (hb.cell hB).trans h.write, (hb.cell hB).trans h.new⟩
theorem vL.later {w w' : World} {b off : Nat} {x : It} (h : vL w b off x) (hb : Below w.heap.size w w') : vL w' b off x := h.below hb h.lt
def Items (w : World) (A : Option Addr) (l : List It) : Prop := ∀ k (h : k < l.length), ∃ b off, A = some ⟨b, off, none⟩ /\ vL w b (off + k * 5) l[k]
theorem qO (w : World) (A : Option Addr) : Items w A [] := fun k hk => absurd hk (by simp)
theorem Items.later {w w' : World} {A : Option Addr} {l : List It} (h : Items w A l) (hb : Below w.heap.size w w') : Items w' A l := by
 intro k hk; obtain ⟨b, off, e, hi⟩ := h k hk; exact ⟨b, off, e, hi.later hb⟩
def gZ (w : World) (A : Option Addr) (l : List Int) : Prop := ∀ k (h : k < l.length), ∃ b off, A = some ⟨b, off, none⟩ /\ w.cell? ⟨b, off + k, none⟩ = some (.int .i64 l[k])
theorem ft (w : World) (A : Option Addr) : gZ w A [] := fun k hk => absurd hk (by simp)
theorem gZ.later {w w' : World} {A : Option Addr} {l : List Int} (h : gZ w A l) (hb : Below w.heap.size w w') : gZ w' A l := by
 intro k hk; obtain ⟨b, off, e, hi⟩ := h k hk; exact ⟨b, off, e, (hb.cell (aH hi)).trans hi⟩
theorem Aa : ∃ f0 f1 f2 f3 f4 : Field, Tryz.prog.underlying 64 = some (.struct #[f0, f1, f2, f3, f4]) /\ oneCellFields Tryz.prog #[f0, f1, f2, f3, f4] = true /\ f0.type = 3 /\ f1.type = 3 /\ f2.type = 3 /\ f3.type = 4 /\ f4.type = 3 :=
 ⟨_, _, _, _, _, Tryz.underlying64, by kernel_rfl, rfl, rfl, rfl, rfl, rfl⟩
theorem Fa : Tryz.prog.cellsOf 64 = 5 := by kernel_rfl
theorem IG : Tryz.prog.cellsOf 47 = 3 := by kernel_rfl
theorem mN {α : Type} {n : Nat} {Q : Nat -> α -> Prop} (x0 : α) (h : ∀ i, i < n -> ∃ x, Q i x) : ∃ f : Nat -> α, ∀ i, i < n -> Q i (f i) := by
 refine ⟨fun i => if hi : i < n then (h i hi).choose else x0, fun i hi => ?_⟩; show Q i (if hi : i < n then (h i hi).choose else x0)
 rw [dif_pos hi]; exact (h i hi).choose_spec
theorem Au {H : Type} {enc : TypeId × Value -> H} {W : World} {fuel : Nat} {a0 : Option Addr} {len cap : Nat} {y : DataW H × List MemPlace}
  (hf : DataW.trod enc Tryz.prog W 0 (fun _ => true) true fuel 48 [.slice a0 len cap] = some y) :
  ∃ l : List It, len = l.length /\ Items W a0 l /\ l.length <= maxLen /\ (∀ x ∈ l, x.ok) /\ Y7 a0 l.length cap := by
 obtain ⟨f0, f1, f2, f3, f4, hst, hone, e0, e1, e2, e3, e4⟩ := Aa; rcases open_slice Tryz.underlying48 hf with ⟨hcs, hx⟩ | ⟨a, len', cap', m, n, D, Pl, hcs, _, hl, hm, hmm, hx, hi⟩
 ·simp at hcs
  obtain ⟨rfl, rfl, rfl⟩ := hcs; exact ⟨[], rfl, qO _ _, by decide, fun x hx => (by cases hx), And.intro (fun _ => rfl) (Nat.le_refl _)⟩
 simp at hcs
 obtain ⟨rfl, rfl, rfl⟩ := hcs; simp only [if_true] at hmm; have each : ∀ i, i < len -> ∃ x : It, x.ok /\ W.cell? (a.add (i * 5)) = some (iv x.cell) /\ W.cell? (a.add (i * 5 + 1)) = some (iv x.version) /\ W.cell? (a.add (i * 5 + 2)) = some (iv x.value) /\ W.cell? (a.add (i * 5 + 3)) = some (.bool x.write) /\ W.cell? (a.add (i * 5 + 4)) = some (iv x.new) := by
  intro i hil; obtain ⟨cs', hc, hr⟩ := hi i (by omega); rw [Fa] at hc; obtain ⟨xs, n', _, hy, hlen, hxl, hg⟩ := DataW.trod_struct hst hr; obtain ⟨_, hcl, hat⟩ := World.cells?_some hc; obtain ⟨o0, k0⟩ := hone_of hone 0 f0 rfl; obtain ⟨o1, k1⟩ := hone_of hone 1 f1 rfl; obtain ⟨o2, k2⟩ := hone_of hone 2 f2 rfl; obtain ⟨o3, k3⟩ := hone_of hone 3 f3 rfl; obtain ⟨o4, k4⟩ := hone_of hone 4 f4 rfl
  match cs', hcl with
  | [c0, c1, c2, c3, c4], _ =>
   match xs, hxl with
   | [y0, y1, y2, y3, y4], _ =>
    have g0 := hg 0 f0 rfl; have g1 := hg 1 f1 rfl; have g2 := hg 2 f2 rfl; have g3 := hg 3 f3 rfl; have g4 := hg 4 f4 rfl; rw [o0, k0, e0] at g0; rw [o1, k1, e1] at g1; rw [o2, k2, e2] at g2; rw [o3, k3, e3] at g3; rw [o4, k4, e4] at g4
    change DataW.trod enc Tryz.prog W 0 (fun _ => true) true n' 3 [c0] = some y0 at g0
    change DataW.trod enc Tryz.prog W 0 (fun _ => true) true n' 3 [c1] = some y1 at g1
    change DataW.trod enc Tryz.prog W 0 (fun _ => true) true n' 3 [c2] = some y2 at g2
    change DataW.trod enc Tryz.prog W 0 (fun _ => true) true n' 4 [c3] = some y3 at g3
    change DataW.trod enc Tryz.prog W 0 (fun _ => true) true n' 3 [c4] = some y4 at g4
    obtain ⟨x0, q0, r0, w0⟩ := DataW.trod_int Tryz.underlying3 g0; obtain ⟨x1, q1, r1, w1⟩ := DataW.trod_int Tryz.underlying3 g1; obtain ⟨x2, q2, r2, w2⟩ := DataW.trod_int Tryz.underlying3 g2; obtain ⟨x3, q3, r3⟩ := DataW.trod_bool Tryz.underlying4 g3; obtain ⟨x4, q4, r4, w4⟩ := DataW.trod_int Tryz.underlying3 g4
    simp at q0 q1 q2 q3 q4
    subst q0; subst q1; subst q2; subst q3; subst q4; have h0 := hat 0 (by omega); have h1 := hat 1 (by omega); have h2 := hat 2 (by omega); have h3 := hat 3 (by omega); have h4 := hat 4 (by omega); simp only [Go.Deep.add_add] at h0 h1 h2 h3 h4; refine ⟨⟨x0, x1, x2, x3, x4⟩, ⟨jT w0, jT w1, jT w2, jT w4⟩, ?_, ?_, ?_, ?_, ?_⟩
    ·rw [Nat.add_zero] at h0
     exact h0
    ·exact h1
    ·exact h2
    ·exact h3
    exact h4
 obtain ⟨f, hfn⟩ := mN it0 each; refine ⟨(List.range len).map f, by simp, ?_, by simp; omega, ?_, And.intro (fun h => by cases h) (by simp; omega)⟩
 ·intro k hk
  have hk' : k < len := by simpa using hk
  have hspec := hfn k hk'; have hspot : a.spot = none := by
   have := World.cell?_spot (hfn 0 (by omega)).2.1
   simpa [Addr.add] using this
  obtain ⟨ab, ao, asp⟩ := a; simp only at hspot; subst hspot; simp only [add_plain, <- Nat.add_assoc] at hspec; have e : ((List.range len).map f)[k] = f k := by simp
  rw [e]; exact ⟨ab, ao, rfl, hspec.2.1, hspec.2.2.1, hspec.2.2.2.1, hspec.2.2.2.2.1, hspec.2.2.2.2.2⟩
 intro x hx
 obtain ⟨i, hi, rfl⟩ := List.mem_map.1 hx; exact (hfn i (List.mem_range.1 hi)).1
theorem Ep {H : Type} {enc : TypeId × Value -> H} {W : World} {fuel : Nat} {a0 : Option Addr} {len cap : Nat} {y : DataW H × List MemPlace}
  (hf : DataW.trod enc Tryz.prog W 0 (fun _ => true) true fuel 49 [.slice a0 len cap] = some y) :
  ∃ l : List Int, len = l.length /\ gZ W a0 l /\ l.length <= maxLen /\ (∀ x ∈ l, lW x) /\ Y7 a0 l.length cap := by
 rcases open_ints Tryz.underlying49 Tryz.underlying3 (by kernel_rfl) hf with ⟨hcs, hx⟩ | ⟨a, len', cap', zs, hcs, _, hl, hm, hz, hx, hcell, hwz⟩
 ·simp at hcs
  obtain ⟨rfl, rfl, rfl⟩ := hcs; exact ⟨[], rfl, ft _ _, by decide, fun x hx => (by cases hx), And.intro (fun _ => rfl) (Nat.le_refl _)⟩
 simp at hcs
 obtain ⟨rfl, rfl, rfl⟩ := hcs; simp only [if_true] at hz; refine ⟨zs.take len, by simp; omega, ?_, by simp; omega, fun x hx => jT (hwz x (List.mem_of_mem_take hx)), And.intro (fun h => by cases h) (by simp; omega)⟩; intro k hk; have hk' : k < len := by simp at hk; omega
 have h1 := hcell k (by omega); obtain ⟨ab, ao, spot⟩ := a; have hspot : spot = none := by
  have h0 := World.cell?_spot (hcell 0 (by omega))
  simpa [Addr.add] using h0
 subst hspot; refine ⟨ab, ao, rfl, ?_⟩; rw [List.getElem_take]; rw [List.getD_eq_getElem?_getD, List.getElem?_eq_getElem (by omega)] at h1; rw [add_plain] at h1; exact h1
end Go.Proofs.YtdkchpiinelmiaaGreat.fN
namespace Go.Proofs.YtdkchpiinelmiaaGreat.Rec
set_option maxRecDepth 100000
open Go.RowKit Mem fN
structure Rc where
 kind : Int
 tid : cT
 items : List It
 nodes : List Int
 node : Int
 count : Int
 num : Int
 cell : Int
 status : Int
 hop : Int
 version : Int
 value : Int
 yes : Bool
structure Lay where
 A : Option Addr
 c : Nat
 B : Option Addr
 d : Nat
def Rc.vals (r : Rc) (y : Lay) : List Value := [.int .i64 r.kind, .int .i64 r.tid.node, .int .i64 r.tid.epoch, .int .i64 r.tid.seq, .slice y.A r.items.length y.c, .slice y.B r.nodes.length y.d, .int .i64 r.node, .int .i64 r.count, .int .i64 r.num, .int .i64 r.cell, .int .i64 r.status, .int .i64 r.hop, .int .i64 r.version, .int .i64 r.value, .bool r.yes]
def Rc.val (r : Rc) (y : Lay) : Value := .agg #[.int .i64 r.kind, .int .i64 r.tid.node, .int .i64 r.tid.epoch, .int .i64 r.tid.seq, .slice y.A r.items.length y.c, .slice y.B r.nodes.length y.d, .int .i64 r.node, .int .i64 r.count, .int .i64 r.num, .int .i64 r.cell, .int .i64 r.status, .int .i64 r.hop, .int .i64 r.version, .int .i64 r.value, .bool r.yes]
abbrev Rc.va (r : Rc) (z : Lay) : Array Value := #[.int .i64 r.kind, .int .i64 r.tid.node, .int .i64 r.tid.epoch, .int .i64 r.tid.seq, .slice z.A r.items.length z.c, .slice z.B r.nodes.length z.d, .int .i64 r.node, .int .i64 r.count, .int .i64 r.num, .int .i64 r.cell, .int .i64 r.status, .int .i64 r.hop, .int .i64 r.version, .int .i64 r.value, .bool r.yes]
abbrev Rc.vl (r : Rc) (z : Lay) : List Value := [.int .i64 r.kind, .int .i64 r.tid.node, .int .i64 r.tid.epoch, .int .i64 r.tid.seq, .slice z.A r.items.length z.c, .slice z.B r.nodes.length z.d, .int .i64 r.node, .int .i64 r.count, .int .i64 r.num, .int .i64 r.cell, .int .i64 r.status, .int .i64 r.hop, .int .i64 r.version, .int .i64 r.value, .bool r.yes]
structure Has (w : World) (r : Rc) (y : Lay) : Prop where
 items : Items w y.A r.items
 nodes : gZ w y.B r.nodes
theorem Has.later {w w' : World} {r : Rc} {y : Lay} (h : Has w r y) (hb : Below w.heap.size w w') : Has w' r y := ⟨h.items.later hb, h.nodes.later hb⟩
structure Rc.ok (r : Rc) : Prop where
 kind : lW r.kind
 tid : r.tid.ok
 items : ∀ x ∈ r.items, x.ok
 nodes : ∀ x ∈ r.nodes, lW x
 node : lW r.node
 count : lW r.count
 num : lW r.num
 cell : lW r.cell
 status : lW r.status
 hop : lW r.hop
 version : lW r.version
 value : lW r.value
def rc0 : Rc := ⟨0, ⟨0, 0, 0⟩, [], [], 0, 0, 0, 0, 0, 0, 0, 0, false⟩
def Js : Lay := ⟨none, 0, none, 0⟩
def Rc.jN (r : Rc) : List Int := [r.node, r.count, r.num, r.cell, r.status, r.hop, r.version, r.value]
def Rc.get (r : Rc) (k : Nat) : Int := (r.jN[k]?).getD 0
theorem rA (r : Rc) (y : Lay) (w : World) :
  Calls Tryz.prog 85 #[r.val y] w fun e w' => e = .returned (.agg #[iv r.node, iv r.count, iv r.num, iv r.cell, iv r.status, iv r.hop, iv r.version, iv r.value]) /\ Below w.heap.size w w' := by
 obtain ⟨k, ⟨t1, t2, t3⟩, its, tT, a0, a1, a2, a3, a4, a5, a6, a7, yes⟩ := r; obtain ⟨A, c, B, d⟩ := y
 generalize hL : its.length = L
 generalize hM : tT.length = M
 unfold Rc.val; simp only [hL, hM]; clear hL hM
 go_enter Tryz.func85, Tryz.ntmps85
 go_wp2
 go_returns
 exact ⟨rfl, Go.Joins.below_alloc2 _ _ _⟩
theorem fu (w : World) (t : TypeId) (l : List Int) (C : Array Value) (hC : C.toList = l.map (Value.int .i64)) : gZ (w.alloc (.cells C t)) (some ⟨w.heap.size, 0, none⟩) l :=
 fun k hk => ⟨_, 0, rfl, by rw [Nat.zero_add]; exact (aB w t _ C hC).cell (by simp [hk])⟩
def fl (k : Int) : List Int := if k = 1 then [0, 1, 2] else if k = 2 then [2] else if k = 3 then [3, 4, 5, 0, 6, 7] else if k = 4 then [8, 9, 10] else if k = 5 then [8, 9, 10] else if k = 6 then [8, 11] else if k = 7 then [8] else if k = 8 then [3, 5, 0] else if k = 9 then [3, 5, 6, 7] else if k = 10 then [3, 5] else if k = 11 then [8, 11] else []
theorem AU (k : Int) (w : World) :
  Calls Tryz.prog 47 #[iv k] w fun e w' => ∃ A c, e = .returned (.tuple #[.slice A (fl k).length c, .bool (decide (1 <= k /\ k <= 12))]) /\ gZ w' A (fl k) /\ (∀ b off, A = some ⟨b, off, none⟩ -> w.heap.size <= b) /\ Below w.heap.size w w' := by
 by_cases h1 : k = 1
 ·subst h1
  go_enter Tryz.func47, Tryz.ntmps47
  go_wp2
  go_returns
  exact ⟨some ⟨w.heap.size, 0, none⟩, _, rfl, fu w _ _ _ rfl, fun b off e => by cases e; exact Nat.le_refl _, av _ _⟩
 by_cases h2 : k = 2
 ·subst h2
  go_enter Tryz.func47, Tryz.ntmps47
  go_wp2
  go_returns
  exact ⟨some ⟨w.heap.size, 0, none⟩, _, rfl, fu w _ _ _ rfl, fun b off e => by cases e; exact Nat.le_refl _, av _ _⟩
 by_cases h3 : k = 3
 ·subst h3
  go_enter Tryz.func47, Tryz.ntmps47
  go_wp2
  go_returns
  exact ⟨some ⟨w.heap.size, 0, none⟩, _, rfl, fu w _ _ _ rfl, fun b off e => by cases e; exact Nat.le_refl _, av _ _⟩
 by_cases h4 : k = 4
 ·subst h4
  go_enter Tryz.func47, Tryz.ntmps47
  go_wp2
  go_returns
  exact ⟨some ⟨w.heap.size, 0, none⟩, _, rfl, fu w _ _ _ rfl, fun b off e => by cases e; exact Nat.le_refl _, av _ _⟩
 by_cases h5 : k = 5
 ·subst h5
  go_enter Tryz.func47, Tryz.ntmps47
  go_wp2
  go_returns
  exact ⟨some ⟨w.heap.size, 0, none⟩, _, rfl, fu w _ _ _ rfl, fun b off e => by cases e; exact Nat.le_refl _, av _ _⟩
 by_cases h6 : k = 6
 ·subst h6
  go_enter Tryz.func47, Tryz.ntmps47
  go_wp2
  go_returns
  exact ⟨some ⟨w.heap.size, 0, none⟩, _, rfl, fu w _ _ _ rfl, fun b off e => by cases e; exact Nat.le_refl _, av _ _⟩
 by_cases h7 : k = 7
 ·subst h7
  go_enter Tryz.func47, Tryz.ntmps47
  go_wp2
  go_returns
  exact ⟨some ⟨w.heap.size, 0, none⟩, _, rfl, fu w _ _ _ rfl, fun b off e => by cases e; exact Nat.le_refl _, av _ _⟩
 by_cases h8 : k = 8
 ·subst h8
  go_enter Tryz.func47, Tryz.ntmps47
  go_wp2
  go_returns
  exact ⟨some ⟨w.heap.size, 0, none⟩, _, rfl, fu w _ _ _ rfl, fun b off e => by cases e; exact Nat.le_refl _, av _ _⟩
 by_cases h9 : k = 9
 ·subst h9
  go_enter Tryz.func47, Tryz.ntmps47
  go_wp2
  go_returns
  exact ⟨some ⟨w.heap.size, 0, none⟩, _, rfl, fu w _ _ _ rfl, fun b off e => by cases e; exact Nat.le_refl _, av _ _⟩
 by_cases h10 : k = 10
 ·subst h10
  go_enter Tryz.func47, Tryz.ntmps47
  go_wp2
  go_returns
  exact ⟨some ⟨w.heap.size, 0, none⟩, _, rfl, fu w _ _ _ rfl, fun b off e => by cases e; exact Nat.le_refl _, av _ _⟩
 by_cases h11 : k = 11
 ·subst h11
  go_enter Tryz.func47, Tryz.ntmps47
  go_wp2
  go_returns
  exact ⟨some ⟨w.heap.size, 0, none⟩, _, rfl, fu w _ _ _ rfl, fun b off e => by cases e; exact Nat.le_refl _, av _ _⟩
 have hf : fl k = [] := by
  unfold fl; simp only [h1, h2, h3, h4, h5, h6, h7, h8, h9, h10, h11, if_false]
 rw [hf]
 by_cases h12 : k = 12
 ·subst h12
  clear hf
  go_enter Tryz.func47, Tryz.ntmps47
  go_wp2
  go_returns
  exact ⟨none, _, rfl, ft _ _, fun b off e => (by cases e), Below.refl _ _⟩
 rw [decide_eq_false (by omega)]
 clear hf
 go_enter Tryz.func47, Tryz.ntmps47
 go_wp2
 go_returns
 exact ⟨none, _, rfl, ft _ _, fun b off e => (by cases e), Below.refl _ _⟩
def fQ (r : Rc) : Int × Int := if r.kind = 3 /\ r.status ≠ 2 then (0, 0) else if r.kind = 1 then (1, r.count) else (1, 16)
theorem tQ (r : Rc) (y : Lay) (w : World) :
  Calls Tryz.prog 102 #[r.val y] w fun e w' => e = .returned (.tuple #[iv (fQ r).1, iv (fQ r).2]) /\ Below w.heap.size w w' := by
 obtain ⟨k, ⟨t1, t2, t3⟩, its, tT, a0, a1, a2, a3, a4, a5, a6, a7, yes⟩ := r; obtain ⟨A, c, B, d⟩ := y
 generalize hL : its.length = L
 generalize hM : tT.length = M
 unfold Rc.val fQ; simp only [hL, hM]; clear hL hM
 by_cases h3 : k = 3
 ·subst h3
  by_cases h4 : a4 = 2
  ·subst h4
   go_enter Tryz.func102, Tryz.ntmps102
   go_wp2
   go_returns
   exact ⟨rfl, av _ _⟩
  rw [if_pos ⟨rfl, h4⟩]
  go_enter Tryz.func102, Tryz.ntmps102
  go_wp2
  go_returns
  exact ⟨rfl, av _ _⟩
 rw [if_neg (fun h => h3 h.1)]
 by_cases h1 : k = 1
 ·subst h1
  go_enter Tryz.func102, Tryz.ntmps102
  go_wp2_with (go_region)
  go_returns
  exact ⟨rfl, (av _ _).drew⟩
 rw [if_neg h1]
 go_enter Tryz.func102, Tryz.ntmps102
 go_wp2
 go_returns
 exact ⟨rfl, av _ _⟩
def iP (r : Rc) (f : Nat) : Int × Int :=
 if f = 0 then fQ r else if f = 1 then (1, 16) else if f = 2 then (if r.kind = 1 then (1, 16) else (1, 1099511627776)) else if f = 3 then (0, 15) else if f = 4 then (0, 2)
 else if f = 5 then (if r.kind = 3 then (0, 1099511627776) else (1, 1099511627776)) else if f = 6 then (0, 1099511627776) else (-9223372036854775808, 9223372036854775807)
set_option maxHeartbeats 1000000 in
theorem Am (r : Rc) (y : Lay) (f : Nat) (w : World) (hf : f < 8) :
  Calls Tryz.prog 86 #[r.val y, iv (f : Int)] w fun e w' => e = .returned (.tuple #[iv (iP r f).1, iv (iP r f).2]) /\ Below w.heap.size w w' := by
 have HN := ak (fun w => tQ r y w); obtain ⟨p, hp⟩ := ah (fQ r); rw [hp] at HN; unfold iP; rw [hp]; clear hp; obtain ⟨k, ⟨t1, t2, t3⟩, its, tT, a0, a1, a2, a3, a4, a5, a6, a7, yes⟩ := r; obtain ⟨A, c, B, d⟩ := y
 generalize hL : its.length = L at HN ⊢
 generalize hM : tT.length = M at HN ⊢
 unfold Rc.val at HN ⊢; simp only [hL, hM] at HN ⊢; clear hL hM
 match f, hf with
 | 0, _ =>
  go_enter Tryz.func86, Tryz.ntmps86
  go_wp2_with fail
  refine (HN.o _).mono ?_; rintro e w1 ⟨rfl, hb1⟩; have fW := ak (Below.trans (av w _) (Go.Joins.below_le hb1 (by simp))); clear hb1
  go_wp2_with fail
  go_returns
  exact ⟨rfl, fW.o⟩
 | 1, _ | 3, _ | 4, _ | 6, _ | 7, _ =>
  go_enter Tryz.func86, Tryz.ntmps86
  go_wp2
  go_returns
  exact ⟨rfl, av _ _⟩
 | 2, _ =>
  by_cases h1 : k = 1
  ·subst h1
   go_enter Tryz.func86, Tryz.ntmps86
   go_wp2
   go_returns
   exact ⟨rfl, av _ _⟩
  rw [if_neg h1]
  go_enter Tryz.func86, Tryz.ntmps86
  go_wp2
  go_returns
  exact ⟨rfl, av _ _⟩
 | 5, _ =>
  by_cases h1 : k = 3
  ·subst h1
   go_enter Tryz.func86, Tryz.ntmps86
   go_wp2
   go_returns
   exact ⟨rfl, av _ _⟩
  rw [if_neg h1]
  go_enter Tryz.func86, Tryz.ntmps86
  go_wp2
  go_returns
  exact ⟨rfl, av _ _⟩
