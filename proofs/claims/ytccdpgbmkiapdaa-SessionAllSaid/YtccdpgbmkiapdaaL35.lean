/-
  Layer 14, the document's Send and Take: what lies where while they are at work.
  Conditions: none.
-/
import Derived.Test.YtccdpgbmkiapdaaL34
namespace Go.Proofs.Ytccdpgbmkiapdaa.Ses
set_option maxRecDepth 100000
open Go.RowKit Go.Deep Go.Proofs.Ytccdpgbmkiapdaa.Mem Go.Proofs.Ytccdpgbmkiapdaa.Win
/-- A call: the session's block, its peers' block, where new blocks begin. -/
structure Ctx where
 B : Nat
 rb : Nat
 pb : Nat
 pc : Nat
 F0 : Nat → Prop
 w1 : World
/-- While the document's Send or Take is at work: the session S, its peer's variable q in block bx (its numbers at A, its payloads at D), what goes out at V. -/
structure Wk (c : Ctx) (S : Sm) (F : Nat → Prop) (As : Nat → Option Addr) (cs : Nat → Nat) (Ds : Nat → Option Addr) (ds : Nat → Nat) (i : Nat) (w : World) (bx : Nat) (q : Pm) (A : Option Addr) (ac : Nat) (D : Option Addr) (dc : Nat) (V : Option Addr) (vc : Nat) (o : List Ot) : Prop where
 ses : RAtX c.B F w c.rb S c.pb c.pc As cs Ds ds
 stp : RStep c.B c.F0 c.w1 c.rb S F w
 box : Cells w bx 66 (rpv q A ac D dc)
 win : OwnG 3 1 iv c.B w (.slice A q.L.length ac) q.L
 row : OwnG 119 4 Hd.rvals c.B w (.slice D q.held.length dc) q.held
 out : OwnG 121 6 Ot.vals c.w1.heap.size w (.slice V o.length vc) o
 nb : ¬ F bx
 bx1 : c.w1.heap.size ≤ bx
 nV : ∀ k, blk V = some k → k ≠ bx ∧ ¬ F k ∧ blk D ≠ some k ∧ blk A ≠ some k
 nD : ∀ k, blk D = some k → k ≠ bx ∧ (some k = blk (Ds i) ∨ c.w1.heap.size ≤ k ∧ ¬ F k)
 nA : ∀ k, blk A = some k → k ≠ bx ∧ (some k = blk (As i) ∨ c.w1.heap.size ≤ k ∧ ¬ F k) ∧ blk D ≠ some k
 low : c.B ≤ c.w1.heap.size
 hi : i < S.peers.length
/-- What turns no block of the session's, but new ones. -/
theorem RStep.aside {B rb : Nat} {F0 F T : Nat → Prop} {w0 w w' : World} {S : Sm} (h : RStep B F0 w0 rb S F w) (ho : Only T w w') (h1 : ∀ k, T k → ¬ F k) (h2 : ∀ k, T k → w0.heap.size ≤ k) : RStep B F0 w0 rb S F w' :=
 ⟨h.at'.only ho fun k e e2 => h1 k e2 e, h.only.trans2 ho h2, h.new⟩
section
variable {c : Ctx} {S : Sm} {F : Nat → Prop} {As Ds : Nat → Option Addr} {cs ds : Nat → Nat} {i bx ac dc vc : Nat} {w w' : World} {q : Pm} {A D V : Option Addr} {o : List Ot}
theorem Wk.siz (h : Wk c S F As cs Ds ds i w bx q A ac D dc V vc o) : c.w1.heap.size ≤ w.heap.size := h.stp.only.size
theorem Wk.later (h : Wk c S F As cs Ds ds i w bx q A ac D dc V vc o) (hb : Below w.heap.size w w') : Wk c S F As cs Ds ds i w' bx q A ac D dc V vc o :=
 ⟨h.ses.later hb, h.stp.after hb, h.box.later hb, OwnG.later h.win hb, OwnG.later h.row hb, OwnG.later h.out hb, h.nb, h.bx1, h.nV, h.nD, h.nA, h.low, h.hi⟩
/-- A cell of the peer's variable is written. -/
theorem Wk.setB (h : Wk c S F As cs Ds ds i w bx q A ac D dc V vc o) (j : Nat) (u : Value) : RAtX c.B F (w.setCell ⟨bx, j, none⟩ u) c.rb S c.pb c.pc As cs Ds ds ∧ RStep c.B c.F0 c.w1 c.rb S F (w.setCell ⟨bx, j, none⟩ u) ∧
  Cells (w.setCell ⟨bx, j, none⟩ u) bx 66 ((rpv q A ac D dc).set j u) ∧ OwnG 3 1 iv c.B (w.setCell ⟨bx, j, none⟩ u) (.slice A q.L.length ac) q.L ∧ OwnG 119 4 Hd.rvals c.B (w.setCell ⟨bx, j, none⟩ u) (.slice D q.held.length dc) q.held ∧
  OwnG 121 6 Ot.vals c.w1.heap.size (w.setCell ⟨bx, j, none⟩ u) (.slice V o.length vc) o := by
 have hset := Only.of_set w ⟨bx, j, none⟩ u
 exact ⟨h.ses.only hset fun k e e2 => h.nb (by rw [← show k = bx from e2]; exact e), h.stp.aside hset (fun k e e2 => h.nb (by rw [← show k = bx from e]; exact e2)) fun k e => by rw [show k = bx from e]; exact h.bx1,
  h.box.set_ j u, row_only h.win hset fun k e e2 => (h.nA k (by rw [own_blk] at e; exact e)).1 e2, row_only h.row hset fun k e e2 => (h.nD k (by rw [own_blk] at e; exact e)).1 e2, row_only h.out hset fun k e e2 => (h.nV k (by rw [own_blk] at e; exact e)).1 e2⟩
theorem Wk.next (h : Wk c S F As cs Ds ds i w bx q A ac D dc V vc o) : Wk c S F As cs Ds ds i (w.setCell ⟨bx, 2, none⟩ (.int .i64 (q.last + 1 + 1))) bx ⟨q.L, q.known, q.last + 1, q.held⟩ A ac D dc V vc o := by
 obtain ⟨h1, h2, h3, h4, h5, h6⟩ := h.setB 2 (.int .i64 (q.last + 1 + 1))
 exact ⟨h1, h2, h3, h4, h5, h6, h.nb, h.bx1, h.nV, h.nD, h.nA, h.low, h.hi⟩
theorem Wk.epoch (h : Wk c S F As cs Ds ds i w bx q A ac D dc V vc o) (x : Int) : Wk c S F As cs Ds ds i (w.setCell ⟨bx, 1, none⟩ (.int .i64 x)) bx ⟨q.L, x, q.last, q.held⟩ A ac D dc V vc o := by
 obtain ⟨h1, h2, h3, h4, h5, h6⟩ := h.setB 1 (.int .i64 x)
 exact ⟨h1, h2, h3, h4, h5, h6, h.nb, h.bx1, h.nV, h.nD, h.nA, h.low, h.hi⟩
/-- What is held is another row now. -/
theorem Wk.setD (h : Wk c S F As cs Ds ds i w bx q A ac D dc V vc o) {l : List Hd} {D2 : Option Addr} {c2 : Nat} (hr : OwnG 119 4 Hd.rvals c.B w (.slice D2 l.length c2) l) (hn : ∀ k, blk D2 = some k → k ≠ bx ∧ c.w1.heap.size ≤ k ∧ ¬ F k ∧ blk V ≠ some k ∧ blk A ≠ some k) :
  Wk c S F As cs Ds ds i (w.setCell ⟨bx, 3, none⟩ (.slice D2 l.length c2)) bx ⟨q.L, q.known, q.last, l⟩ A ac D2 c2 V vc o := by
 obtain ⟨h1, h2, h3, h4, h5, h6⟩ := h.setB 3 (.slice D2 l.length c2)
 have hset := Only.of_set w ⟨bx, 3, none⟩ (.slice D2 l.length c2)
 exact ⟨h1, h2, h3, h4, row_only hr hset fun k e e2 => (hn k (by rw [own_blk] at e; exact e)).1 e2, h6, h.nb, h.bx1, fun k e => ⟨(h.nV k e).1, (h.nV k e).2.1, fun e2 => (hn k e2).2.2.2.1 e, (h.nV k e).2.2.2⟩, fun k e => ⟨(hn k e).1, Or.inr ⟨(hn k e).2.1, (hn k e).2.2.1⟩⟩,
  fun k e => ⟨(h.nA k e).1, (h.nA k e).2.1, fun e2 => (hn k e2).2.2.2.2 e⟩, h.low, h.hi⟩
/-- One more goes out: it lies in a slice of one at block g. -/
theorem Wk.app2 {wd : World} (h : Wk c S F As cs Ds ds i w bx q A ac D dc V vc o) (hbd : Below w.heap.size w wd) {g : Nat} (x : Ot) (hcd : Cells wd g 121 x.vals) (ho : o.length ≤ 100) :
  ∃ V' c' w', (Builtin.append_ #[47, 47] 47 #[.slice V o.length vc, .slice (some ⟨g, 0, none⟩) 1 1]).run Try.prog wd = .ok (.slice V' (o.length + 1) c') w' ∧
   Wk c S F As cs Ds ds i w' bx q A ac D dc V' c' (o ++ [x]) ∧ Only (fun k => blk V = some k) w w' ∧ ∀ k, blk V' = some k → blk V = some k ∨ wd.heap.size ≤ k := by
 have hsl1 : Sl wd (some ⟨g, 0, none⟩) 6 ([x].map Ot.vals) := cells_sl (by simpa using hcd) (fun v hv => (fit_ot [_]).len v hv)
 have hd := h.later hbd
 obtain ⟨V', n', c', w5, hrun, hrow, hn', hon, hnb⟩ := OwnG.appS el_rot fit_ot hd.out (m := [x]) (c := 1) hsl1 (fun e => by cases e) hd.siz (by simp only [List.length_singleton]; omega)
 simp only [List.length_append, List.length_singleton] at hn'
 subst hn'
 have hVV : ∀ k, (Value.slice V o.length vc).ownBlock = some k → blk V = some k := fun k e => by rw [own_blk] at e; exact e
 refine ⟨V', c', w5, hrun, ?_, (Only.of_below hbd).trans hon fun k _ e => hVV k e, fun k e => (hnb k e).imp_left (hVV k)⟩
 refine ⟨hd.ses.only hon fun k e e2 => (hd.nV k (hVV k e2)).2.1 e, hd.stp.aside hon (fun k e => (hd.nV k (hVV k e)).2.1) fun k e => (hd.out.lt k e).1, cells_only hd.box hon fun e => (hd.nV bx (hVV bx e)).1 rfl, row_only hd.win hon fun k e e2 => (hd.nV k (hVV k e2)).2.2.2 (by rw [own_blk] at e; exact e),
  row_only hd.row hon fun k e e2 => (hd.nV k (hVV k e2)).2.2.1 (by rw [own_blk] at e; exact e), by rw [List.length_append]; exact hrow, hd.nb, hd.bx1, fun k e => ?_, hd.nD, hd.nA, hd.low, hd.hi⟩
 rcases hnb k e with e3 | e3
 ·exact hd.nV k (hVV k e3)
 ·refine ⟨?_, fun e4 => ?_, fun e4 => ?_, fun e4 => ?_⟩
  ·have := hd.box.lt
   omega
  ·have := hd.ses.lt k e4
   omega
  ·have := (hd.row.lt k (by rw [own_blk]; exact e4)).2
   omega
  ·have := (hd.win.lt k (by rw [own_blk]; exact e4)).2
   omega
theorem Wk.app (h : Wk c S F As cs Ds ds i w bx q A ac D dc V vc o) (x : Ot) (ho : o.length ≤ 100) :
  ∃ V' c' w', (Builtin.append_ #[47, 47] 47 #[.slice V o.length vc, .slice (some ⟨w.heap.size, 0, none⟩) 1 1]).run Try.prog (w.alloc (.cells #[.int .i64 x.dst, .int .i64 x.e.kind, .int .i64 x.e.epoch, .int .i64 x.e.peer, .int .i64 x.e.seq, .string x.e.pay] 121)) = .ok (.slice V' (o.length + 1) c') w' ∧
   Wk c S F As cs Ds ds i w' bx q A ac D dc V' c' (o ++ [x]) :=
 let ⟨V', c', w', h1, h2, _⟩ := h.app2 (below_alloc _ _) x (cells_new _ _ x.vals _ rfl) ho
 ⟨V', c', w', h1, h2⟩
/-- A list of payloads of the call's own, besides all that. -/
structure Wl (c : Ctx) (S : Sm) (F : Nat → Prop) (As : Nat → Option Addr) (cs : Nat → Nat) (Ds : Nat → Option Addr) (ds : Nat → Nat) (i : Nat) (w : World) (bx : Nat) (q : Pm) (A : Option Addr) (ac : Nat) (D : Option Addr) (dc : Nat) (V : Option Addr) (vc : Nat) (o : List Ot) (L : Option Addr) (lc : Nat) (l : List Hd) : Prop where
 wk : Wk c S F As cs Ds ds i w bx q A ac D dc V vc o
 own : OwnG 119 4 Hd.rvals c.w1.heap.size w (.slice L l.length lc) l
 nL : ∀ k, blk L = some k → k ≠ bx ∧ ¬ F k ∧ blk V ≠ some k ∧ blk A ≠ some k ∧ blk D ≠ some k
theorem Wl.later {L : Option Addr} {lc : Nat} {l : List Hd} (h : Wl c S F As cs Ds ds i w bx q A ac D dc V vc o L lc l) (hb : Below w.heap.size w w') : Wl c S F As cs Ds ds i w' bx q A ac D dc V vc o L lc l := ⟨h.wk.later hb, OwnG.later h.own hb, h.nL⟩
/-- One more payload is put into it. -/
theorem Wl.app2 {wd : World} {L : Option Addr} {lc : Nat} {l : List Hd} (h : Wl c S F As cs Ds ds i w bx q A ac D dc V vc o L lc l) (hbd : Below w.heap.size w wd) {g : Nat} (x : Hd) (hcd : Cells wd g 119 x.rvals) (ho : l.length ≤ 100) :
  ∃ L' c' w', (Builtin.append_ #[64, 64] 64 #[.slice L l.length lc, .slice (some ⟨g, 0, none⟩) 1 1]).run Try.prog wd = .ok (.slice L' (l.length + 1) c') w' ∧
   Wl c S F As cs Ds ds i w' bx q A ac D dc V vc o L' c' (l ++ [x]) ∧ Only (fun k => blk L = some k) w w' ∧ ∀ k, blk L' = some k → blk L = some k ∨ wd.heap.size ≤ k := by
 have hsl1 : Sl wd (some ⟨g, 0, none⟩) 4 ([x].map Hd.rvals) := cells_sl (by simpa using hcd) (fun v hv => (fit_rhd [_]).len v hv)
 have hd := h.later hbd
 obtain ⟨V', n', c', w5, hrun, hrow, hn', hon, hnb⟩ := OwnG.appS el_rhd fit_rhd hd.own (m := [x]) (c := 1) hsl1 (fun e => by cases e) hd.wk.siz (by simp only [List.length_singleton]; omega)
 simp only [List.length_append, List.length_singleton] at hn'
 subst hn'
 have hVV : ∀ k, (Value.slice L l.length lc).ownBlock = some k → blk L = some k := fun k e => by rw [own_blk] at e; exact e
 refine ⟨V', c', w5, hrun, ?_, (Only.of_below hbd).trans hon fun k _ e => hVV k e, fun k e => (hnb k e).imp_left (hVV k)⟩
 refine ⟨⟨hd.wk.ses.only hon fun k e e2 => (hd.nL k (hVV k e2)).2.1 e, hd.wk.stp.aside hon (fun k e => (hd.nL k (hVV k e)).2.1) fun k e => (hd.own.lt k e).1, cells_only hd.wk.box hon fun e => (hd.nL bx (hVV bx e)).1 rfl, row_only hd.wk.win hon fun k e e2 => (hd.nL k (hVV k e2)).2.2.2.1 (by rw [own_blk] at e; exact e),
  row_only hd.wk.row hon fun k e e2 => (hd.nL k (hVV k e2)).2.2.2.2 (by rw [own_blk] at e; exact e), row_only hd.wk.out hon fun k e e2 => (hd.nL k (hVV k e2)).2.2.1 (by rw [own_blk] at e; exact e), hd.wk.nb, hd.wk.bx1, hd.wk.nV, hd.wk.nD, hd.wk.nA, hd.wk.low, hd.wk.hi⟩, by rw [List.length_append]; exact hrow, fun k e => ?_⟩
 rcases hnb k e with e3 | e3
 ·exact hd.nL k (hVV k e3)
 ·refine ⟨?_, fun e4 => ?_, fun e4 => ?_, fun e4 => ?_, fun e4 => ?_⟩
  ·have := hd.wk.box.lt
   omega
  ·have := hd.wk.ses.lt k e4
   omega
  ·have := (hd.wk.out.lt k (by rw [own_blk]; exact e4)).2
   omega
  ·have := (hd.wk.win.lt k (by rw [own_blk]; exact e4)).2
   omega
  ·have := (hd.wk.row.lt k (by rw [own_blk]; exact e4)).2
   omega
/-- The list is the peer's from now on. -/
theorem Wl.set {L : Option Addr} {lc : Nat} {l : List Hd} (h : Wl c S F As cs Ds ds i w bx q A ac D dc V vc o L lc l) : Wk c S F As cs Ds ds i (w.setCell ⟨bx, 3, none⟩ (.slice L l.length lc)) bx ⟨q.L, q.known, q.last, l⟩ A ac L lc V vc o :=
 h.wk.setD (own_up h.wk.low h.own) fun k e => ⟨(h.nL k e).1, (h.own.lt k (by rw [own_blk]; exact e)).1, (h.nL k e).2.1, (h.nL k e).2.2.1, (h.nL k e).2.2.2.1⟩
/-- While one thing is made and appended, in open order. -/
structure App1 (we : World) (T : TypeId) (vals : List Value) (dx : Bool) (vx : Value) (W : World) : Prop where
 low : Below we.heap.size we W
 x : dx = true → ∃ g, vx = .slice (some ⟨g, 0, none⟩) 1 1 ∧ Cells W g T vals
theorem App1.start {we W : World} {T : TypeId} {vals : List Value} (hb : Below we.heap.size we W) (vx : Value) : App1 we T vals false vx W := ⟨hb, fun e => by cases e⟩
/-- The peer is put back into the session. -/
theorem Wk.back2 (h : Wk c S F As cs Ds ds i w bx q A ac D dc V vc o) : w.there c.pb (i * 4) 4 ∧ ∃ F' As' cs' Ds' ds', Wk c { S with peers := S.peers.set i q } F' As' cs' Ds' ds' i (w.setCells c.pb (i * 4) (rpv q A ac D dc)) bx q A ac D dc V vc o ∧ ∀ k, F' k → F k ∨ blk A = some k ∨ blk D = some k := by
 have hp := (h.ses.peer i h.hi).1
 have hset : Only (fun k => k = c.pb) w (w.setCells c.pb (i * 4) (rpv q A ac D dc)) :=
  (((Only.of_set w ⟨c.pb, i * 4, none⟩ _).trans (Only.of_set _ ⟨c.pb, i * 4 + 1, none⟩ _) fun _ _ e => e).trans (Only.of_set _ ⟨c.pb, i * 4 + 2, none⟩ _) fun _ _ e => e).trans (Only.of_set _ ⟨c.pb, i * 4 + 3, none⟩ _) fun _ _ e => e
 have hkp : Keeps c.pb (i * 4) 4 w (w.setCells c.pb (i * 4) (rpv q A ac D dc)) :=
  (((Keeps.set w c.pb (i * 4) 4 (j := 0) (by decide) _).trans (Keeps.set _ c.pb (i * 4) 4 (j := 1) (by decide) _)).trans (Keeps.set _ c.pb (i * 4) 4 (j := 2) (by decide) _)).trans (Keeps.set _ c.pb (i * 4) 4 (j := 3) (by decide) _)
 have hce : CellsO (w.setCells c.pb (i * 4) (rpv q A ac D dc)) c.pb (i * 4) (rpv q A ac D dc) := (((hp.set_ 0 _).set_ 1 _).set_ 2 _).set_ 3 _
 have hDp : ∀ k, blk D = some k → k ≠ c.pb := fun k e e2 => by
  rcases (h.nD k e).2 with e3 | e3
  ·exact (h.ses.sD i k h.hi e3.symm).2 e2
  ·exact e3.2 (by rw [e2]; exact h.ses.fp)
 have hAp : ∀ k, blk A = some k → k ≠ c.pb := fun k e e2 => by
  rcases (h.nA k e).2.1 with e3 | e3
  ·exact (h.ses.sA i k h.hi e3.symm).2 e2
  ·exact e3.2 (by rw [e2]; exact h.ses.fp)
 have hbp : bx ≠ c.pb := fun e => h.nb (by rw [e]; exact h.ses.fp)
 have hVp : ∀ k, blk V = some k → k ≠ c.pb := fun k e e2 => (h.nV k e).2.1 (by rw [e2]; exact h.ses.fp)
 have hwin := row_only h.win hset fun k e => hAp k (by rw [own_blk] at e; exact e)
 have hrow := row_only h.row hset fun k e => hDp k (by rw [own_blk] at e; exact e)
 obtain ⟨F', ⟨h1, h2⟩, h3, h4⟩ := RStep.put h.stp h.ses h.hi (p' := q) (A' := A) (D' := D) (ac' := ac) (dc' := dc) ⟨hce, ⟨hwin, hrow⟩, hset.mono fun k _ e => Or.inl e, hkp, fun k e => (h.nA k e).2.1, fun k e => (h.nD k e).2, fun k e e2 => (h.nA k e).2.2 e2⟩
 refine ⟨hp.there (by simp [rpv]), F', _, _, _, _, ⟨h3, h1, cells_only h.box hset hbp, hwin, hrow, row_only h.out hset fun k e => hVp k (by rw [own_blk] at e; exact e), fun e => ?_, h.bx1, fun k e => ⟨(h.nV k e).1, fun e2 => ?_, (h.nV k e).2.2⟩, fun k e => ⟨(h.nD k e).1, Or.inl ?_⟩, fun k e => ⟨(h.nA k e).1, Or.inl ?_, (h.nA k e).2.2⟩, h.low, ?_⟩, h2⟩
 ·rcases h2 bx e with e2 | e2 | e2
  ·exact h.nb e2
  ·exact (h.nA bx e2).1 rfl
  ·exact (h.nD bx e2).1 rfl
 ·rcases h2 k e2 with e3 | e3 | e3
  ·exact (h.nV k e).2.1 e3
  ·exact (h.nV k e).2.2.2 e3
  ·exact (h.nV k e).2.2.1 e3
 ·rw [if_pos rfl]; exact e.symm
 ·rw [if_pos rfl]; exact e.symm
 ·simp only [List.length_set]; exact h.hi
theorem Wk.back (h : Wk c S F As cs Ds ds i w bx q A ac D dc V vc o) : w.there c.pb (i * 4) 4 ∧ ∃ F' As' cs' Ds' ds', Wk c { S with peers := S.peers.set i q } F' As' cs' Ds' ds' i (w.setCells c.pb (i * 4) (rpv q A ac D dc)) bx q A ac D dc V vc o := by
 obtain ⟨h1, F', As', cs', Ds', ds', h2, _⟩ := h.back2
 exact ⟨h1, F', As', cs', Ds', ds', h2⟩
end
end Go.Proofs.Ytccdpgbmkiapdaa.Ses
