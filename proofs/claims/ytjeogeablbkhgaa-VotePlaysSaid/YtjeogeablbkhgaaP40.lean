/-
  Layer 19: New of a ballot.
  Conditions: none.
-/
import Derived.Test.YtjeogeablbkhgaaP39
namespace Go.Proofs.Ytjeogeablbkhgaa.Vot
set_option maxRecDepth 100000
open Go.RowKit Go.Deep Go.Proofs.Ytjeogeablbkhgaa.Mem Go.Proofs.Ytjeogeablbkhgaa.Item
/-- While one more part is put behind a ballot's: which of the new slice (d12), the append (d13), the store (d16) are done. -/
structure NwS (B gb : Nat) (A : Option Addr) (c : Nat) (t : Tid) (l : List Sd) (nd : Int) (its : List It) (A2 : Option Addr) (c2 : Nat) (we : World) (d12 : Bool) (v12 : Value) (d13 : Bool) (v13 : Value) (d16 : Bool) (W : World) : Prop where
 low : Only (fun k => (d13 = true ∧ blk A = some k) ∨ (d16 = true ∧ k = gb)) we W
 clb : ∀ k, blk A2 = some k → we.heap.size ≤ k ∧ k < W.heap.size
 cli : Items W A2 its
 cln : A2 = none → c2 = 0
 x : d12 = true → ∃ q, v12 = .slice (some ⟨q, 0, none⟩) 1 1 ∧ Cells W q 68 (⟨nd, A2, c2, its, false, false⟩ : Sd).vals ∧ we.heap.size ≤ q
 row : d13 = true → ∃ A3 n3 c3, v13 = .slice A3 n3 c3 ∧ OwnG 68 4 Sd.vals B W (.slice A3 n3 c3) (l ++ [⟨nd, A2, c2, its, false, false⟩]) ∧ ∀ k, blk A3 = some k → blk A = some k ∨ (we.heap.size ≤ k ∧ blk A2 ≠ some k)
 box : d16 = true → ∃ A3 n3 c3, v13 = .slice A3 n3 c3 ∧ Cells W gb 65 [.int .i64 t.node, .int .i64 t.epoch, .int .i64 t.seq, .slice A3 n3 c3, .bool false]
section
variable {B T gb c c2 : Nat} {A A2 : Option Addr} {t : Tid} {l : List Sd} {nd : Int} {its : List It} {we W : World} {v12 v13 : Value}
theorem NwS.start (hb : Below we.heap.size we W) (h1 : ∀ k, blk A2 = some k → we.heap.size ≤ k ∧ k < W.heap.size) (h2 : Items W A2 its) (h3 : A2 = none → c2 = 0) (v12 v13 : Value) : NwS B gb A c t l nd its A2 c2 we false v12 false v13 false W :=
 ⟨Only.of_below hb, h1, h2, h3, fun e => (by cases e), fun e => (by cases e), fun e => (by cases e)⟩
theorem NwS.mkx (h : NwS B gb A c t l nd its A2 c2 we false v12 false v13 false W) {cells : Array Value} (hc : cells.toList = (⟨nd, A2, c2, its, false, false⟩ : Sd).vals) : NwS B gb A c t l nd its A2 c2 we true (.slice (some ⟨W.heap.size, 0, none⟩) 1 1) false v13 false (W.alloc (.cells cells 68)) := by
 have hb := below_alloc W (.cells cells 68)
 refine ⟨h.low.trans (S' := fun _ => False) (Only.of_below hb) fun _ _ e => e.elim, fun k e => ⟨(h.clb k e).1, Nat.lt_of_lt_of_le (h.clb k e).2 hb.size⟩, h.cli.later hb, h.cln, fun _ => ⟨W.heap.size, rfl, cells_new W 68 _ _ hc, h.low.size⟩, fun e => (by cases e), fun e => (by cases e)⟩
theorem NwS.app (h : NwS B gb A c t l nd its A2 c2 we true v12 false v13 false W) (hA : CAt B T we gb A c t false l) :
  ∃ q A3 n3 c3 W', v12 = .slice (some ⟨q, 0, none⟩) 1 1 ∧ (Builtin.append_ #[63, 63] 63 #[.slice A l.length c, .slice (some ⟨q, 0, none⟩) 1 1]).run Try.prog W = .ok (.slice A3 n3 c3) W' ∧ NwS B gb A c t l nd its A2 c2 we true v12 true (.slice A3 n3 c3) false W' := by
 obtain ⟨q, h1, h2, h3⟩ := h.x rfl
 have hlow : Only (fun _ => False) we W := h.low.mono fun k _ e => e.elim (fun e => by cases e.1) fun e => by cases e.1
 have hrow : OwnG 68 4 Sd.vals B W (.slice A l.length c) l := hA.row.only hlow fun _ _ e => e
 have hsl : Sl W (some ⟨q, 0, none⟩) 4 ([(⟨nd, A2, c2, its, false, false⟩ : Sd)].map Sd.vals) := cells_sl (by simpa using h2) fun v hv => (fit_sd [(⟨nd, A2, c2, its, false, false⟩ : Sd)]).len v hv
 have hBs : B ≤ W.heap.size := by have := hA.low; have := hA.box.lt; have := hlow.size; omega
 obtain ⟨A3, n3, c3, W', hrun, hr, _, ho, hg⟩ := OwnG.appS el_said fit_sd hrow (m := [(⟨nd, A2, c2, its, false, false⟩ : Sd)]) hsl (fun e => by cases e) hBs (by have := hA.len; simp only [List.length_singleton]; omega)
 have hAlt : ∀ k, blk A = some k → k < we.heap.size := fun k e => (hA.row.lt (by rw [own_blk]; exact e)).2
 have ho2 : Only (fun k => blk A = some k) W W' := ho.mono fun k _ e => by rw [own_blk] at e; exact e
 refine ⟨q, A3, n3, c3, W', h1, hrun, (h.low.mono fun k _ e => e.elim (fun e => by cases e.1) fun e => by cases e.1).trans ho2 fun k _ e => Or.inl ⟨rfl, e⟩, fun k e => ⟨(h.clb k e).1, Nat.lt_of_lt_of_le (h.clb k e).2 ho.size⟩, items_only h.cli ho2 fun k e e2 => ?_, h.cln, fun _ => ⟨q, h1, cells_only h2 ho2 fun e => ?_, h3⟩, fun _ => ⟨A3, n3, c3, rfl, hr, fun k e => ?_⟩, fun e => (by cases e)⟩
 ·have := (h.clb k e).1
  have := hAlt k e2
  omega
 ·have := hAlt q e
  omega
 ·rcases hg k e with e2 | e2
  ·rw [own_blk] at e2
   exact Or.inl e2
  ·refine Or.inr ⟨Nat.le_trans hlow.size e2, fun e3 => ?_⟩
   have := (h.clb k e3).2
   omega
theorem NwS.store (h : NwS B gb A c t l nd its A2 c2 we true v12 true v13 false W) (hA : CAt B T we gb A c t false l) :
  ∃ A3 n3 c3, v13 = .slice A3 n3 c3 ∧ W.cell? ⟨gb, 3, none⟩ = some (.slice A l.length c) ∧ W.frozen? ⟨gb, 3, none⟩ = false ∧ NwS B gb A c t l nd its A2 c2 we true v12 true v13 true (W.setCell ⟨gb, 3, none⟩ (.slice A3 n3 c3)) := by
 obtain ⟨A3, n3, c3, h1, h2, h3⟩ := h.row rfl
 have hlow : Only (fun k => blk A = some k) we W := h.low.mono fun k _ e => e.elim (fun e => e.2) fun e => by cases e.1
 have hbx := cells_only hA.box hlow fun e => hA.far e
 have ho := Only.of_set W ⟨gb, 3, none⟩ (.slice A3 n3 c3)
 have hgl := hA.box.lt
 have hx := h.x rfl
 refine ⟨A3, n3, c3, h1, hbx.cell (j := 3) rfl, hbx.frozen (j := 3) (by simp), (hlow.mono (S' := fun k => (true = true ∧ blk A = some k) ∨ (true = true ∧ k = gb)) fun k _ e => Or.inl ⟨rfl, e⟩).trans ho fun k _ e => Or.inr ⟨rfl, e⟩, fun k e => ⟨(h.clb k e).1, Nat.lt_of_lt_of_le (h.clb k e).2 ho.size⟩, items_only h.cli ho fun k e e2 => ?_, h.cln, fun _ => ?_, fun _ => ⟨A3, n3, c3, h1, h2.only ho fun k e e2 => ?_, h3⟩, fun _ => ⟨A3, n3, c3, h1, hbx.set_ 3 _⟩⟩
 ·have := (h.clb k e).1
  have e3 : k = gb := e2
  omega
 ·obtain ⟨q, k1, k2, k3⟩ := hx
  refine ⟨q, k1, cells_only k2 ho fun e => ?_, k3⟩
  have e3 : q = gb := e
  omega
 ·rw [own_blk] at e
  have e3 : k = gb := e2
  subst e3
  rcases h3 k e with e4 | e4
  ·exact hA.far e4
  ·omega
theorem NwS.fin (h : NwS B gb A c t l nd its A2 c2 we true v12 true v13 true W) (hA : CAt B we.heap.size we gb A c t false l) (hu : ((l ++ [(⟨nd, A2, c2, its, false, false⟩ : Sd)]).map (·.node)).Nodup) (hl : l.length < 40) (hi : its.length ≤ 40) :
  ∃ A3 c3, CAt B W.heap.size W gb A3 c3 t false (l ++ [⟨nd, A2, c2, its, false, false⟩]) := by
 obtain ⟨A3, n3, c3, h1, h2, h3⟩ := h.row rfl
 obtain ⟨A4, n4, c4, h4, h5⟩ := h.box rfl
 rw [h1] at h4
 simp only [Value.slice.injEq] at h4
 obtain ⟨rfl, rfl, rfl⟩ := h4
 obtain ⟨rfl, _⟩ := OwnG.sl fit_sd h2
 have hlo : Only (foot gb A) we W := h.low.mono fun k _ e => e.elim (fun e => Or.inr e.2) fun e => Or.inl e.2
 have hgl := hA.box.lt
 have hAlt : ∀ k, blk A = some k → k < we.heap.size := fun k e => (hA.row.lt (by rw [own_blk]; exact e)).2
 refine ⟨A3, c3, ⟨h5, h2, fun e => ?_, ⟨hA.low.1, h5.lt⟩, fun k e => (h2.lt (by rw [own_blk]; exact e)).2, fun s hs => ?_, fun s hs k e => ?_, hu, by rw [List.length_append, List.length_singleton]; omega, fun s hs => ?_⟩⟩
 ·rcases h3 gb e with e2 | e2
  ·exact hA.far e2
  ·omega
 ·rcases List.mem_append.1 hs with hs | hs
  ·refine ⟨items_only (hA.its s hs).1 hlo fun k e e2 => ?_, (hA.its s hs).2⟩
   have := hA.ifar s hs k e
   rcases e2 with e2 | e2
   ·exact this.2.1 e2
   ·exact this.2.2 e2
  ·rw [List.mem_singleton.1 hs]
   exact ⟨h.cli, h.cln⟩
 ·rcases List.mem_append.1 hs with hs | hs
  ·have h6 := hA.ifar s hs k e
   refine ⟨Nat.lt_of_lt_of_le h6.1 hlo.size, h6.2.1, fun e2 => ?_⟩
   rcases h3 k e2 with e3 | e3
   ·exact h6.2.2 e3
   ·omega
  ·rw [List.mem_singleton.1 hs] at e
   have h6 := h.clb k e
   refine ⟨h6.2, by omega, fun e2 => ?_⟩
   rcases h3 k e2 with e3 | e3
   ·have := hAlt k e3
    omega
   ·exact e3.2 e
 ·rcases List.mem_append.1 hs with hs | hs
  ·exact hA.ilen s hs
  ·rw [List.mem_singleton.1 hs]
   exact hi
end
/-- Where the items' blocks lie. -/
def Its (P : Nat → Prop) (l : List Sd) : Prop := ∀ s ∈ l, ∀ k, blk s.A = some k → P k
theorem Its.map {P : Nat → Prop} {l : List Sd} (h : Its P l) {f : Sd → Sd} (hf : ∀ s, (f s).A = s.A) : Its P (l.map f) := fun s hs k e => by
 obtain ⟨x, hx, rfl⟩ := List.mem_map.1 hs
 rw [hf] at e
 exact h x hx k e
theorem Its.say {P : Nat → Prop} {l : List Sd} (h : Its P l) (n : Int) : Its P (sayL n l) := h.map fun s => by unfold Sd.say Sd.setY; split <;> rfl
theorem Its.akn {P : Nat → Prop} {l : List Sd} (h : Its P l) (n : Int) : Its P (aknL n l) := h.map fun s => by unfold Sd.akn Sd.setK; split <;> rfl
theorem Its.vote {P : Nat → Prop} {l : List Sd} (h : Its P l) (s n : Int) (y : Bool) : Its P (voteL s n y l) := by
 unfold voteL
 split
 ·exact h.say n
 ·exact h
theorem Its.akns {P : Nat → Prop} {ns : List Int} : ∀ {l : List Sd}, Its P l → Its P (aknsL ns l) := by
 unfold aknsL
 induction ns with
 | nil => intro l h; exact h
 | cons n ns ih => intro l h; rw [List.foldl_cons]; exact ih (h.akn n)
theorem Its.ack {P : Nat → Prop} {l : List Sd} (h : Its P l) (s : Int) (ns : List Int) : Its P (ackL s ns l) := by
 unfold ackL
 split
 ·exact h.akns
 ·exact h
/-- A ballot stays while another one's blocks, all ahead of its own, turn. -/
theorem BAt.keep {bT eT : TypeId} {B T g c g1 B1 : Nat} {A A1 : Option Addr} {t : Tid} {z : Value} {l : List Sd} {w w1 : World} (h : BAt bT eT B T w g A c t z l) (ho : Only (foot g1 A1) w w1) (hf : ∀ k, foot g1 A1 k → B1 ≤ k ∧ k < B) (hi : Its (fun k => B ≤ k ∨ k < B1) l) : BAt bT eT B T w1 g A c t z l :=
 h.only ho (fun e => (by have := hf _ e; have := h.low; omega)) (fun k e e2 => by have := hf _ e2; have := (h.row.lt (by rw [own_blk]; exact e)).1; omega) fun s hs k e e2 => by
  have := hf _ e2
  have := hi s hs k e
  omega
/-- A ballot stays while another one's blocks, all behind its own, turn. -/
theorem BAt.keep2 {bT eT : TypeId} {B T g c g1 : Nat} {A A1 : Option Addr} {t : Tid} {z : Value} {l : List Sd} {w w1 : World} (h : BAt bT eT B T w g A c t z l) (ho : Only (foot g1 A1) w w1) (hf : ∀ k, foot g1 A1 k → T ≤ k) : BAt bT eT B T w1 g A c t z l :=
 h.only ho (fun e => (by have := hf _ e; have := h.low; omega)) (fun k e e2 => by have := hf _ e2; have := h.top k e; omega) fun s hs k e e2 => by
  have := hf _ e2
  have := (h.ifar s hs k e).1
  omega
theorem BAt.foot_in {bT eT : TypeId} {B T g c : Nat} {A : Option Addr} {t : Tid} {z : Value} {l : List Sd} {w : World} (h : BAt bT eT B T w g A c t z l) : ∀ k, foot g A k → B ≤ k ∧ k < T := fun k e => by
 rcases e with e | e
 ·rw [e]; exact h.low
 ·exact ⟨(h.row.lt (by rw [own_blk]; exact e)).1, h.top k e⟩
/-- What New gives. -/
def NewOut (t : Tid) (ps : List Sd) (w : World) (e : Ending) (w' : World) : Prop :=
 Below w.heap.size w w' ∧ ((rightTid t && okParts ps) = false → e = .returned (.tuple #[.pointer none, .int .i64 1])) ∧
 ((rightTid t && okParts ps) = true → ∃ g A c l, e = .returned (.tuple #[.pointer (some ⟨g, 0, none⟩), .int .i64 0]) ∧ CAt w.heap.size w'.heap.size w' g A c t false l ∧ Like l ps ∧ Its (fun k => w.heap.size ≤ k) l)
theorem like_nodes {l m : List Sd} (h : Like l m) : l.map (·.node) = m.map (·.node) := h.ind (C := fun l m => l.map (·.node) = m.map (·.node)) rfl fun x y l m e _ ih => by
 rw [List.map_cons, List.map_cons, ih, (core_inj e).1]
theorem like_app {l m : List Sd} {x y : Sd} (h : Like l m) (e : x.core = y.core) : Like (l ++ [x]) (m ++ [y]) := by
 unfold Like at h ⊢
 rw [List.map_append, List.map_append, h, List.map_singleton, List.map_singleton, e]
theorem parts_uniq {ps : List Sd} (h : okParts ps = true) : (ps.map (·.node)).Nodup := by
 unfold okParts at h
 rw [Bool.and_eq_true, Bool.and_eq_true] at h
 exact (nodes_rise _ _ h.1.2).2.1
set_option maxHeartbeats 2000000 in
theorem New_any {w : World} {O : Option Addr} {ps : List Sd} {oc : Nat} (t : Tid) (h : Parts w O ps) (hl : ps.length ≤ 40) (hf : ∀ s ∈ ps, s.yes = false ∧ s.ack = false) :
  Calls Try.prog 9 #[.agg #[.int .i64 t.node, .int .i64 t.epoch, .int .i64 t.seq], .slice O ps.length oc] w (NewOut t ps w) := by
 obtain ⟨wa, hwa⟩ : ∃ W, W = w.alloc (.cells #[.int .i64 t.node, .int .i64 t.epoch, .int .i64 t.seq] 23) := ⟨_, rfl⟩
 have hba : Below w.heap.size w wa := by rw [hwa]; exact below_alloc _ _
 have hca : Cells wa w.heap.size 23 [.int .i64 t.node, .int .i64 t.epoch, .int .i64 t.seq] := by rw [hwa]; exact cells_new _ _ _ _ rfl
 have HRT := Lib.hid (rightTid_any t wa)
 have HPS := Lib.hid (h.later hba)
 have HPW : Hid (∀ W, Below w.heap.size w W → Parts W O ps) := Lib.hid fun W hb => h.later hb
 have HBA := Lib.hid hba
 have HCA0 := Lib.hid hca
 have HFL := Lib.hid hf
 have y0 := hca.cell (j := 0) rfl
 have y1 := hca.cell (j := 1) rfl
 have y2 := hca.cell (j := 2) rfl
 obtain ⟨n, hn⟩ : ∃ n, ps.length = n := ⟨_, rfl⟩
 rw [hn] at hl ⊢
 have HN := Lib.hid hn
 clear h hba hca hn hf
 go_enter Try.func9, Try.ntmps9
 go_upto_region 1 with (fail)
 rw [← hwa]
 clear hwa
 obtain ⟨rt, hrt⟩ : ∃ b, rightTid t = b := ⟨_, rfl⟩
 rw [hrt] at HRT
 have HRTE := Lib.hid hrt
 clear hrt
 go_wp2_with fail
 refine (show Calls Try.prog 27 #[.agg #[.int .i64 t.node, .int .i64 t.epoch, .int .i64 t.seq]] _ _ from HRT.out).mono ?_
 rintro e w1 ⟨rfl, hb1⟩
 have HB1 := Lib.hid (HBA.out.trans (hb1.mono HBA.out.size))
 have HC1 := Lib.hid (HCA0.out.later hb1)
 have HP1 := Lib.hid (HPS.out.later hb1)
 clear hb1 HRT HBA HCA0 HPS y0 y1 y2
 cases rt with
 | false =>
  have HF : Hid ((rightTid t && okParts ps) = false) := Lib.hid (by rw [HRTE.out]; rfl)
  go_wp2_with fail
  go_returns
  exact ⟨HB1.out, fun _ => rfl, fun e => by rw [HF.out] at e; cases e⟩
 | true =>
  have hrp := rightParts_any (oc := oc) HP1.out (by rw [HN.out]; exact hl)
  rw [HN.out] at hrp
  obtain ⟨rp, hrpe⟩ : ∃ b, okParts ps = b := ⟨_, rfl⟩
  rw [hrpe] at hrp
  have HRP := Lib.hid hrp
  have HRPE := Lib.hid hrpe
  clear hrp hrpe
  go_wp2_with fail
  refine HRP.out.mono ?_
  rintro e w2 ⟨rfl, hb2⟩
  have HB2 := Lib.hid (HB1.out.trans (hb2.mono HB1.out.size))
  have HC2 := Lib.hid (HC1.out.later hb2)
  have HP2 := Lib.hid (HP1.out.later hb2)
  clear hb2 HRP HB1 HC1 HP1
  cases rp with
  | false =>
   have HF : Hid ((rightTid t && okParts ps) = false) := Lib.hid (by rw [HRPE.out, Bool.and_false])
   go_wp2_with fail
   go_returns
   exact ⟨HB2.out, fun _ => rfl, fun e => by rw [HF.out] at e; cases e⟩
  | true =>
   have HT : Hid ((rightTid t && okParts ps) = true) := Lib.hid (by rw [HRTE.out, HRPE.out]; rfl)
   have y0 := HC2.out.cell (j := 0) rfl
   have y1 := HC2.out.cell (j := 1) rfl
   have y2 := HC2.out.cell (j := 2) rfl
   obtain ⟨w3, hw3⟩ : ∃ W, W = w2.alloc (.cells #[.int .i64 t.node, .int .i64 t.epoch, .int .i64 t.seq, .slice none 0 0, .bool false] 65) := ⟨_, rfl⟩
   have hb3 : Below w2.heap.size w2 w3 := by rw [hw3]; exact below_alloc _ _
   have hc3 : Cells w3 w2.heap.size 65 [.int .i64 t.node, .int .i64 t.epoch, .int .i64 t.seq, .slice none 0 0, .bool false] := by rw [hw3]; exact cells_new _ _ _ _ rfl
   have HA3 : Hid (CAt w.heap.size w3.heap.size w3 w2.heap.size none 0 t false []) := Lib.hid ⟨hc3, OwnG.nil _ _ _ _ _, fun e => (by cases e), ⟨HB2.out.size, hc3.lt⟩, fun k e => (by cases e), fun s hs => (by cases hs), fun s hs => (by cases hs), List.nodup_nil, Nat.zero_le _, fun s hs => (by cases hs)⟩
   have HB3 := Lib.hid (HB2.out.trans (hb3.mono HB2.out.size))
   have HP3 := Lib.hid (HP2.out.later hb3)
   obtain ⟨gb, hgb⟩ : ∃ g, w2.heap.size = g := ⟨_, rfl⟩
   rw [hgb] at HA3
   clear hb3 hc3 HB2 HP2
   go_upto_region 4 with (fail)
   rw [← hw3]
   clear hw3 y0 y1 y2 hgb HC2
   go_wp2_with fail
   go_loopw [8, 22] (fun _ i wr => ∃ (k : Nat) (A : Option Addr) (c : Nat) (l : List Sd), k ≤ n ∧ i = .int .i64 (k : Int) ∧ Hid (CAt w.heap.size wr.heap.size wr gb A c t false l ∧ Like l (ps.take k) ∧ Its (fun k => w.heap.size ≤ k) l) ∧ Hid (Below w.heap.size w wr)) (fun _ i _ => n - (intOf i).toNat)
   case atStart => exact ⟨0, none, 0, [], Nat.zero_le _, rfl, Lib.hid ⟨HA3.out, rfl, fun s hs => by cases hs⟩, HB3⟩
   case round =>
    clear HA3
    obtain ⟨k, A, c, l, hk, rfl, HA, HB⟩ := hrel
    by_cases hlt : k < n
    ·have hkl : k < ps.length := by rw [HN.out]; exact hlt
     have hh : Parts wr O ps := HPW.out wr HB.out
     obtain ⟨g, off, rfl, hr⟩ := hh.at hkl
     have hM := List.getElem_mem hkl
     obtain ⟨s, hs⟩ : ∃ s, ps[k] = s := ⟨_, rfl⟩
     have HTM := Lib.hid (take_more hkl hs)
     rw [hs] at hr hM
     have HM := Lib.hid hM
     have hit := hh.2 s hM
     have x0 : wr.cell? ⟨g, off + k * 2, none⟩ = _ := hr 0 _ rfl
     have x1 := hr 1 _ rfl
     obtain ⟨hbb, hcb⟩ := copy_part wr s
     obtain ⟨m, hm⟩ : ∃ m, s.its.length = m := ⟨_, rfl⟩
     have HMM := Lib.hid hm
     unfold pv at hcb
     rw [hm] at x1 hbb hcb
     obtain ⟨we, hwe⟩ : ∃ W, W = wr.alloc (.cells #[.int .i64 s.node, .slice s.A m s.c] 55) := ⟨_, rfl⟩
     rw [← hwe] at hbb hcb
     have hAe := HA.out.1.later hbb
     have hAT : CAt w.heap.size we.heap.size we gb A c t false l := ⟨hAe.box, hAe.row, hAe.far, ⟨hAe.low.1, hAe.box.lt⟩, fun j e => (hAe.row.lt (by rw [own_blk]; exact e)).2, hAe.its, fun s hs j e => ⟨Nat.lt_of_lt_of_le (hAe.ifar s hs j e).1 hbb.size, (hAe.ifar s hs j e).2⟩, hAe.uniq, hAe.len, hAe.ilen⟩
     have HCA := Lib.hid hAT
     have hlk : l.length = k := by rw [HA.out.2.1.len, List.length_take]; omega
     have HK := Lib.hid hlk
     have HB2 := Lib.hid (HB.out.trans (hbb.mono HB.out.size))
     obtain ⟨pb, hpb⟩ : ∃ p, wr.heap.size = p := ⟨_, rfl⟩
     rw [hpb] at hcb
     have hgw := HA.out.1.box.lt
     have hAw : ∀ j, blk A = some j → j < wr.heap.size := fun j e => (HA.out.1.row.lt (by rw [own_blk]; exact e)).2
     have HPB : Hid (∀ wi, Only (foot gb A) we wi → Cells wi pb 55 [.int .i64 s.node, .slice s.A m s.c]) := Lib.hid fun wi ho => cells_only hcb ho fun e => by
      rcases e with e | e
      ·omega
      ·have := hAw _ e; omega
     have HBX : Hid (∀ wi, Only (fun j => blk A = some j) we wi → wi.cell? ⟨gb, 3, none⟩ = some (.slice A k c)) := Lib.hid fun wi ho => by
      have h1 := (cells_only hAT.box ho fun e => hAT.far e).cell (j := 3) rfl
      rwa [hlk] at h1
     have hie := hit.1.later hbb
     have HCL : Hid (∀ wi, Below we.heap.size we wi → Calls Try.prog 29 #[.slice s.A m s.c] wi fun e w' => (∃ A2 c2, e = .returned (.slice A2 m c2) ∧ (∀ j, blk A2 = some j → wi.heap.size ≤ j ∧ j < w'.heap.size) ∧ Items w' A2 s.its ∧ (A2 = none → c2 = 0)) ∧ Below wi.heap.size wi w') := Lib.hid fun wi hb => by
      have h1 := clone_item s.A (s.its.map It.vals) s.c wi (items_sl (hie.later hb)) (fit_items _) hit.2.1 (by rw [List.length_map]; have := hit.2.2; omega)
      rw [List.length_map, hm] at h1
      refine h1.mono ?_
      rintro e w' ⟨⟨v, rfl, hrow⟩, hb2⟩
      have hrow2 : w'.ownsRow wi.heap.size 60 5 v (s.its.map It.vals).length (s.its.map It.vals).flatten := by rw [List.length_map, hm]; exact hrow
      obtain ⟨A2, c2, rfl, hsl, hnil, hge⟩ := own_sl hrow2 (fit_items _).len
      rw [List.length_map, hm] at hrow2 ⊢
      exact ⟨⟨A2, c2, rfl, fun j e => hrow2.lt j (by rw [own_blk]; exact e), sl_items hsl, hnil⟩, hb2⟩
     have hnu : ((ps.take (k + 1)).map (·.node)).Nodup := by rw [List.map_take]; exact (parts_uniq HRPE.out).sublist (List.take_sublist _ _)
     have HNU := Lib.hid hnu
     have HIL := Lib.hid hit.2.2
     have HFS := Lib.hid (HFL.out s hM)
     have HLK := Lib.hid HA.out.2.1
     have HIT := Lib.hid HA.out.2.2
     clear hkl hh hs hr hM hit hbb hcb hm hAe hAT hlk hie hgw hAw hnu HA HB
     go_upto_region 7 with (fail)
     rw [← hwe]
     clear hwe x0 x1 hpb
     refine Reg.region_inv (by kernel_rfl) (fun i => ([some (.pointer (some ⟨gb, 0, none⟩)), some (.pointer (some ⟨gb, 0, none⟩)), some (.pointer (some ⟨gb, 0, none⟩)), some (.pointer (some ⟨gb, 3, none⟩)), some (.slice A k c), some (.pointer (some ⟨pb, 0, none⟩)), some (.int .i64 s.node), some (.pointer (some ⟨pb, 1, none⟩)), some (.slice s.A m s.c), none, none, none, none, none, some (.pointer (some ⟨gb, 0, none⟩)), some (.pointer (some ⟨gb, 3, none⟩)), none] : List (Option Value)).getD i none) (fun D V W => Only (fun j => ((D 13) = true ∧ blk A = some j) ∨ ((D 16) = true ∧ j = gb)) we (W) ∧ ((D 9) = false → Below we.heap.size we W) ∧ ((D 9) = true → ∃ A2 c2, (V 9) = .slice A2 m c2 ∧ ((D 10) = true → (V 10) = .agg #[.int .i64 s.node, .slice A2 m c2]) ∧ ((D 11) = true → (V 11) = .agg #[.int .i64 s.node, .slice A2 m c2, .bool false, .bool false]) ∧ NwS w.heap.size gb A c t l s.node s.its A2 c2 we (D 12) (V 12) (D 13) (V 13) (D 16) (W))) (fun V => [(some 26, V 0), (some 27, V 1), (some 28, V 2), (some 29, V 3), (some 30, V 4), (some 31, V 5), (some 32, V 6), (some 33, V 7), (some 34, V 8), (some 35, V 9), (some 36, V 10), (some 37, V 11), (some 38, V 12), (some 39, V 13), (some 40, V 14), (some 41, V 15), (none, V 16)]) (by kernel_rfl) (by kernel_rfl) (fun V => rfl) ?_ ?_ ?_
     ·intro V
      exact ⟨Only.of_below (Below.refl _ _).drew, fun _ => (Below.refl _ _).drew, fun e => (by cases e)⟩
     ·intro i o ho
      have hi : i < 17 := (Array.getElem?_eq_some_iff.1 ho).1
      rcases i with _ | _ | _ | _ | _ | _ | _ | _ | _ | _ | _ | _ | _ | _ | _ | _ | _ | i
      rotate_right
      ·omega
      all_goals obtain rfl := Option.some.inj ho
      all_goals intro D V ρ wi hE hI hDi hT hF hs hd hk
      ·have e6 : ρ (.tmp 6) = .pointer (some ⟨gb, 0, none⟩) := hs 6; clear hT hF hk
       exact Reg.Gives.value (v := .pointer (some ⟨gb, 0, none⟩)) (w' := wi) (by go_simp) ⟨fun x h => Option.some.inj h, hI⟩
      ·have e6 : ρ (.tmp 6) = .pointer (some ⟨gb, 0, none⟩) := hs 6; clear hT hF hk
       exact Reg.Gives.value (v := .pointer (some ⟨gb, 0, none⟩)) (w' := wi) (by go_simp) ⟨fun x h => Option.some.inj h, hI⟩
      ·have e27 : ρ (.tmp 27) = .pointer (some ⟨gb, 0, none⟩) := (hd 1 27).trans (hk 1 _ rfl); clear hT hF hk
       exact Reg.Gives.value (v := .pointer (some ⟨gb, 0, none⟩)) (w' := wi) (by go_simp) ⟨fun x h => Option.some.inj h, hI⟩
      ·have e28 : ρ (.tmp 28) = .pointer (some ⟨gb, 0, none⟩) := (hd 2 28).trans (hk 2 _ rfl); clear hT hF hk
       exact Reg.Gives.value (v := .pointer (some ⟨gb, 3, none⟩)) (w' := wi) (by go_simp) ⟨fun x h => Option.some.inj h, hI⟩
      ·have e29 : ρ (.tmp 29) = .pointer (some ⟨gb, 3, none⟩) := (hd 3 29).trans (hk 3 _ rfl); have hD16 : D 16 = false := hF 1 16; clear hT hF
       have hx := HBX.out wi (hI.1.mono fun k _ e => e.elim (fun e => e.2) fun e => absurd (hD16.symm.trans e.1) (by decide))
       exact Reg.Gives.value (v := .slice A k c) (w' := wi) (by go_simp) ⟨fun x h => Option.some.inj h, hI⟩
      ·have e8 : ρ (.tmp 8) = .pointer (some ⟨pb, 0, none⟩) := hs 8; clear hT hF hk
       exact Reg.Gives.value (v := .pointer (some ⟨pb, 0, none⟩)) (w' := wi) (by go_simp) ⟨fun x h => Option.some.inj h, hI⟩
      ·have e31 : ρ (.tmp 31) = .pointer (some ⟨pb, 0, none⟩) := (hd 5 31).trans (hk 5 _ rfl); clear hT hF; have hcw := HPB.out wi (hI.1.mono fun k _ e => e.elim (fun e => Or.inr e.2) fun e => Or.inl e.2); have q0 := hcw.cell (j := 0) rfl
       exact Reg.Gives.value (v := .int .i64 s.node) (w' := wi) (by go_simp) ⟨fun x h => Option.some.inj h, hI⟩
      ·have e8 : ρ (.tmp 8) = .pointer (some ⟨pb, 0, none⟩) := hs 8; clear hT hF hk
       exact Reg.Gives.value (v := .pointer (some ⟨pb, 1, none⟩)) (w' := wi) (by go_simp) ⟨fun x h => Option.some.inj h, hI⟩
      ·have e33 : ρ (.tmp 33) = .pointer (some ⟨pb, 1, none⟩) := (hd 7 33).trans (hk 7 _ rfl); clear hT hF; have hcw := HPB.out wi (hI.1.mono fun k _ e => e.elim (fun e => Or.inr e.2) fun e => Or.inl e.2); have q1 := hcw.cell (j := 1) rfl
       exact Reg.Gives.value (v := .slice s.A m s.c) (w' := wi) (by go_simp) ⟨fun x h => Option.some.inj h, hI⟩
      ·have e34 : ρ (.tmp 34) = .slice s.A m s.c := (hd 8 34).trans (hk 8 _ rfl); have hf := hE.func; have hD9 : D 9 = false := hDi; have hD10 : D 10 = false := hF 1 10; have hD11 : D 11 = false := hF 2 11; have hD12 : D 12 = false := hF 3 12; have hD13 : D 13 = false := hF 1 13; have hD16 : D 16 = false := hF 1 16; clear hT hF; have hL : Below we.heap.size we wi := hI.2.1 hD9
       refine Reg.Gives.call (f := 29) (args := #[.slice s.A m s.c]) (w' := wi) (by go_simp) ?_
       refine (HCL.out wi hL).mono ?_
       rintro e w'' ⟨⟨A2, c2, rfl, hcl⟩, hb⟩
       exact ⟨_, rfl, fun x h => (by cases h), by show Only (fun j => ((D 13) = true ∧ blk A = some j) ∨ ((D 16) = true ∧ j = gb)) we (w'') ∧ ((true) = false → Below we.heap.size we w'') ∧ ((true) = true → ∃ Ax cx, (Value.slice A2 m c2) = .slice Ax m cx ∧ ((D 10) = true → (V 10) = .agg #[.int .i64 s.node, .slice Ax m cx]) ∧ ((D 11) = true → (V 11) = .agg #[.int .i64 s.node, .slice Ax m cx, .bool false, .bool false]) ∧ NwS w.heap.size gb A c t l s.node s.its Ax cx we (D 12) (V 12) (D 13) (V 13) (D 16) (w'')); rw [hD10, hD11, hD12, hD13, hD16]; exact ⟨Only.of_below (hL.trans (hb.mono hL.size)), fun e => (by cases e), fun _ => ⟨A2, c2, rfl, fun e => (by cases e), fun e => (by cases e), NwS.start (hL.trans (hb.mono hL.size)) (fun k e => ⟨Nat.le_trans hL.size (hcl.1 k e).1, (hcl.1 k e).2⟩) hcl.2.1 hcl.2.2 _ _⟩⟩⟩
      ·have e32 : ρ (.tmp 32) = .int .i64 s.node := (hd 6 32).trans (hk 6 _ rfl); have e35 : ρ (.tmp 35) = V 9 := hd 9 35; have hD9 : D 9 = true := hT 1 9; have hD11 : D 11 = false := hF 1 11; clear hT hF; obtain ⟨A2, c2, hv, h10, h11, hn⟩ := hI.2.2 hD9
       rw [hv] at e35
       exact Reg.Gives.value (v := .agg #[.int .i64 s.node, .slice A2 m c2]) (w' := wi) (by go_simp) ⟨fun x h => (by cases h), by show Only (fun j => ((D 13) = true ∧ blk A = some j) ∨ ((D 16) = true ∧ j = gb)) we (wi) ∧ ((D 9) = false → Below we.heap.size we wi) ∧ ((D 9) = true → ∃ Ax cx, (V 9) = .slice Ax m cx ∧ ((true) = true → (.agg #[.int .i64 s.node, .slice A2 m c2] : Value) = .agg #[.int .i64 s.node, .slice Ax m cx]) ∧ ((D 11) = true → (V 11) = .agg #[.int .i64 s.node, .slice Ax m cx, .bool false, .bool false]) ∧ NwS w.heap.size gb A c t l s.node s.its Ax cx we (D 12) (V 12) (D 13) (V 13) (D 16) (wi)); rw [hD9, hD11]; exact ⟨hI.1, fun e => (by cases e), fun _ => ⟨A2, c2, hv, fun _ => rfl, fun e => (by cases e), hn⟩⟩⟩
      ·have e36 : ρ (.tmp 36) = V 10 := hd 10 36; have hD9 : D 9 = true := hT 2 9; have hD10 : D 10 = true := hT 1 10; clear hT hF; obtain ⟨A2, c2, hv, h10, h11, hn⟩ := hI.2.2 hD9
       rw [h10 hD10] at e36
       exact Reg.Gives.value (v := .agg #[.int .i64 s.node, .slice A2 m c2, .bool false, .bool false]) (w' := wi) (by go_simp) ⟨fun x h => (by cases h), by show Only (fun j => ((D 13) = true ∧ blk A = some j) ∨ ((D 16) = true ∧ j = gb)) we (wi) ∧ ((D 9) = false → Below we.heap.size we wi) ∧ ((D 9) = true → ∃ Ax cx, (V 9) = .slice Ax m cx ∧ ((D 10) = true → (V 10) = .agg #[.int .i64 s.node, .slice Ax m cx]) ∧ ((true) = true → (.agg #[.int .i64 s.node, .slice A2 m c2, .bool false, .bool false] : Value) = .agg #[.int .i64 s.node, .slice Ax m cx, .bool false, .bool false]) ∧ NwS w.heap.size gb A c t l s.node s.its Ax cx we (D 12) (V 12) (D 13) (V 13) (D 16) (wi)); rw [hD9]; exact ⟨hI.1, fun e => (by cases e), fun _ => ⟨A2, c2, hv, h10, fun _ => rfl, hn⟩⟩⟩
      ·have e37 : ρ (.tmp 37) = V 11 := hd 11 37; have hD9 : D 9 = true := hT 3 9; have hD11 : D 11 = true := hT 1 11; have hD12 : D 12 = false := hDi; have hD13 : D 13 = false := hF 1 13; have hD16 : D 16 = false := hF 1 16; clear hT hF; obtain ⟨A2, c2, hv, h10, h11, hn⟩ := hI.2.2 hD9
       rw [h11 hD11] at e37
       rw [hD12, hD13, hD16] at hn
       exact Reg.Gives.value (v := .slice (some ⟨wi.heap.size, 0, none⟩) 1 1) (w' := wi.alloc (.cells #[.int .i64 s.node, .slice A2 m c2, .bool false, .bool false] 68)) (by go_simp) ⟨fun x h => (by cases h), by show Only (fun j => ((D 13) = true ∧ blk A = some j) ∨ ((D 16) = true ∧ j = gb)) we (wi.alloc (.cells #[.int .i64 s.node, .slice A2 m c2, .bool false, .bool false] 68)) ∧ ((D 9) = false → Below we.heap.size we (wi.alloc (.cells #[.int .i64 s.node, .slice A2 m c2, .bool false, .bool false] 68))) ∧ ((D 9) = true → ∃ Ax cx, (V 9) = .slice Ax m cx ∧ ((D 10) = true → (V 10) = .agg #[.int .i64 s.node, .slice Ax m cx]) ∧ ((D 11) = true → (V 11) = .agg #[.int .i64 s.node, .slice Ax m cx, .bool false, .bool false]) ∧ NwS w.heap.size gb A c t l s.node s.its Ax cx we (true) (.slice (some ⟨wi.heap.size, 0, none⟩) 1 1) (D 13) (V 13) (D 16) (wi.alloc (.cells #[.int .i64 s.node, .slice A2 m c2, .bool false, .bool false] 68))); rw [hD9, hD13, hD16]; exact ⟨(hn.mkx (by rw [← HMM.out]; rfl)).low, fun e => (by cases e), fun _ => ⟨A2, c2, hv, h10, h11, hn.mkx (by rw [← HMM.out]; rfl)⟩⟩⟩
      ·have e30 : ρ (.tmp 30) = .slice A k c := (hd 4 30).trans (hk 4 _ rfl); have e38 : ρ (.tmp 38) = V 12 := hd 12 38; have hD9 : D 9 = true := hT 1 9; have hD12 : D 12 = true := hT 1 12; have hD13 : D 13 = false := hDi; have hD16 : D 16 = false := hF 1 16; clear hT hF; obtain ⟨A2, c2, hv, h10, h11, hn⟩ := hI.2.2 hD9
       rw [hD12, hD13, hD16] at hn
       obtain ⟨q, A3, n3, c3, w2, hq, hrun, hn2⟩ := hn.app HCA.out
       rw [HK.out] at hrun
       rw [hq] at e38
       exact Reg.Gives.value (v := .slice A3 n3 c3) (w' := w2) (Reg.exec_append rfl e30 e38 hrun) ⟨fun x h => (by cases h), by show Only (fun j => ((true) = true ∧ blk A = some j) ∨ ((D 16) = true ∧ j = gb)) we (w2) ∧ ((D 9) = false → Below we.heap.size we w2) ∧ ((D 9) = true → ∃ Ax cx, (V 9) = .slice Ax m cx ∧ ((D 10) = true → (V 10) = .agg #[.int .i64 s.node, .slice Ax m cx]) ∧ ((D 11) = true → (V 11) = .agg #[.int .i64 s.node, .slice Ax m cx, .bool false, .bool false]) ∧ NwS w.heap.size gb A c t l s.node s.its Ax cx we (D 12) (V 12) (true) (.slice A3 n3 c3) (D 16) (w2)); rw [hD9, hD12, hD16]; exact ⟨hn2.low, fun e => (by cases e), fun _ => ⟨A2, c2, hv, h10, h11, hn2⟩⟩⟩
      ·have e26 : ρ (.tmp 26) = .pointer (some ⟨gb, 0, none⟩) := (hd 0 26).trans (hk 0 _ rfl); clear hT hF hk
       exact Reg.Gives.value (v := .pointer (some ⟨gb, 0, none⟩)) (w' := wi) (by go_simp) ⟨fun x h => Option.some.inj h, hI⟩
      ·have e40 : ρ (.tmp 40) = .pointer (some ⟨gb, 0, none⟩) := (hd 14 40).trans (hk 14 _ rfl); clear hT hF hk
       exact Reg.Gives.value (v := .pointer (some ⟨gb, 3, none⟩)) (w' := wi) (by go_simp) ⟨fun x h => Option.some.inj h, hI⟩
      ·have e41 : ρ (.tmp 41) = .pointer (some ⟨gb, 3, none⟩) := (hd 15 41).trans (hk 15 _ rfl); have e39 : ρ (.tmp 39) = V 13 := hd 13 39; have hD9 : D 9 = true := hT 1 9; have hD12 : D 12 = true := hT 1 12; have hD13 : D 13 = true := hT 1 13; have hD16 : D 16 = false := hDi; clear hT hF; obtain ⟨A2, c2, hv, h10, h11, hn⟩ := hI.2.2 hD9
       rw [hD12, hD13, hD16] at hn
       obtain ⟨A3, n3, c3, hw3, x3, f3, hn2⟩ := hn.store HCA.out
       rw [hw3] at e39
       exact Reg.Gives.skip (w' := wi.setCell ⟨gb, 3, none⟩ (.slice A3 n3 c3)) (by go_simp) ⟨fun x h => (by cases h), by show Only (fun j => ((D 13) = true ∧ blk A = some j) ∨ ((true) = true ∧ j = gb)) we (wi.setCell ⟨gb, 3, none⟩ (.slice A3 n3 c3)) ∧ ((D 9) = false → Below we.heap.size we (wi.setCell ⟨gb, 3, none⟩ (.slice A3 n3 c3))) ∧ ((D 9) = true → ∃ Ax cx, (V 9) = .slice Ax m cx ∧ ((D 10) = true → (V 10) = .agg #[.int .i64 s.node, .slice Ax m cx]) ∧ ((D 11) = true → (V 11) = .agg #[.int .i64 s.node, .slice Ax m cx, .bool false, .bool false]) ∧ NwS w.heap.size gb A c t l s.node s.its Ax cx we (D 12) (V 12) (D 13) (V 13) (true) (wi.setCell ⟨gb, 3, none⟩ (.slice A3 n3 c3))); rw [hD9, hD12, hD13]; exact ⟨hn2.low, fun e => (by cases e), fun _ => ⟨A2, c2, hv, h10, h11, hn2⟩⟩⟩
     ·intro V wf hk hI
      simp only [Reg.putsO, List.foldl_cons, List.foldl_nil, Act.put, List.setIfInBounds_toArray, List.set_cons_succ, List.set_cons_zero]
      replace hI : Only (fun j => (true = true ∧ blk A = some j) ∨ (true = true ∧ j = gb)) we (wf) ∧ (true = false → Below we.heap.size we wf) ∧ (true = true → ∃ A2 c2, (V 9) = .slice A2 m c2 ∧ (true = true → (V 10) = .agg #[.int .i64 s.node, .slice A2 m c2]) ∧ (true = true → (V 11) = .agg #[.int .i64 s.node, .slice A2 m c2, .bool false, .bool false]) ∧ NwS w.heap.size gb A c t l s.node s.its A2 c2 we true (V 12) true (V 13) true (wf)) := hI
      clear hk
      obtain ⟨A2, c2, _, _, _, hn⟩ := hI.2.2 rfl
      have hcr : (⟨s.node, A2, c2, s.its, false, false⟩ : Sd).core = s.core := by unfold Sd.core; rw [HFS.out.1, HFS.out.2]
      have hlike : Like (l ++ [⟨s.node, A2, c2, s.its, false, false⟩]) (ps.take (k + 1)) := by rw [HTM.out]; exact like_app HLK.out hcr
      obtain ⟨A3, c3, hfin⟩ := hn.fin HCA.out (by rw [like_nodes hlike]; exact HNU.out) (by rw [HK.out]; omega) HIL.out
      have hits : Its (fun j => w.heap.size ≤ j) (l ++ [⟨s.node, A2, c2, s.its, false, false⟩]) := fun x hx j e => by
       rcases List.mem_append.1 hx with hx | hx
       ·exact HIT.out x hx j e
       ·rw [List.mem_singleton.1 hx] at e
        exact Nat.le_trans HB2.out.size (hn.clb j e).1
      have HF := Lib.hid (And.intro hfin (And.intro hlike hits))
      have HBF := Lib.hid (HB2.out.trans ((hn.low.mono (S' := foot gb A) fun j _ e => e.elim (fun e => Or.inr e.2) fun e => Or.inl e.2).below HB2.out.size fun j e => by
       rcases e with e | e
       ·have := HCA.out.low.1; omega
       ·exact (HCA.out.row.lt (by rw [own_blk]; exact e)).1))
      clear hI hn hcr hlike hfin HCL HBX HPB HCA
      go_wp2_with fail
      go_roundw
      case rel => exact ⟨k + 1, A3, c3, _, by omega, by go_num, HF, HBF⟩
      case measure => simp [intOf]; omega
    ·obtain rfl : k = n := by omega
     have HF : Hid (CAt w.heap.size wr.heap.size wr gb A c t false l ∧ Like l ps ∧ Its (fun k => w.heap.size ≤ k) l) := Lib.hid (by have h1 := HA.out; rwa [List.take_of_length_le (Nat.le_of_eq HN.out)] at h1)
     go_wp2_with fail
     go_returns
     exact ⟨HB.out, fun e => (by rw [HT.out] at e; cases e), fun _ => ⟨gb, A, c, l, rfl, HF.out⟩⟩
end Go.Proofs.Ytjeogeablbkhgaa.Vot
