/-
  Layer 13, the document's window within another struct (its first field): what it is asked. Made from XWinRef by program.
  Layer 14, the document's Take: a number is seen by the window in the peer's variable (which may share the session's own row), and the peer is put back.
  Conditions: none.
-/
import Derived.Test.YtccdpgbmkiapdaaL31
import Derived.Test.YtccdpgbmkiapdaaL35
import Derived.Test.YtccdpgbmkiapdaaL36
namespace Go.Proofs.Ytccdpgbmkiapdaa.Ses
set_option maxRecDepth 100000
open Go.RowKit Go.Deep Go.Proofs.Ytccdpgbmkiapdaa.Mem Go.Proofs.Ytccdpgbmkiapdaa.Win
/-- The document's window: its struct lies in block rb, its numbers at A. -/
structure RfO (t : TypeId) (B : Nat) (w : World) (rb : Nat) (L : List Int) (A : Option Addr) (ac : Nat) : Prop where
 cel : Cells w rb t [.slice A L.length ac]
 row : OwnG 3 1 iv B w (.slice A L.length ac) L
 low : B ≤ rb
 nA : ∀ k, blk A = some k → k ≠ rb
section
variable {t : TypeId} {B rb ac : Nat} {w w' : World} {L : List Int} {A : Option Addr}
theorem RfO.only {S : Nat → Prop} (h : RfO t B w rb L A ac) (ho : Only S w w') (h1 : ¬ S rb) (h2 : ∀ k, blk A = some k → ¬ S k) : RfO t B w' rb L A ac :=
 ⟨cells_only h.cel ho h1, row_only h.row ho (fun k e => h2 k (by rw [own_blk] at e; exact e)), h.low, h.nA⟩
theorem RfO.later (h : RfO t B w rb L A ac) (hb : Below w.heap.size w w') : RfO t B w' rb L A ac := h.only (Only.of_below (S := fun _ => False) hb) (fun e => e) fun _ _ e => e
theorem RfO.at (h : RfO t B w rb L A ac) {k : Nat} (hk : k < L.length) : ∃ g off, A = some ⟨g, off, none⟩ ∧ w.cell? ⟨g, off + k, none⟩ = some (.int .i64 L[k]) := by
 obtain ⟨_, hs⟩ := OwnG.sl fit_iv h.row
 obtain ⟨g, off, e, hr⟩ := hs k (by rw [List.length_map]; exact hk)
 rw [List.getElem_map] at hr
 have h0 := hr 0 _ rfl
 rw [Nat.mul_one, Nat.add_zero] at h0
 exact ⟨g, off, e, h0⟩
end
end Go.Proofs.Ytccdpgbmkiapdaa.Ses
namespace Go.Proofs.Ytccdpgbmkiapdaa.Ses
set_option maxRecDepth 100000
open Go.RowKit Go.Deep Go.Proofs.Ytccdpgbmkiapdaa.Mem Go.Proofs.Ytccdpgbmkiapdaa.Win
/-- Behind See: the peer's variable is q2 now, its numbers at A2. -/
structure Wz (c : Ctx) (S : Sm) (F : Nat → Prop) (As : Nat → Option Addr) (cs : Nat → Nat) (Ds : Nat → Option Addr) (ds : Nat → Nat) (i : Nat) (w0 : World) (bx : Nat) (q : Pm) (A : Option Addr) (ac : Nat) (D : Option Addr) (dc : Nat) (V : Option Addr) (vc : Nat) (o : List Ot) (w : World) (L2 : List Int) (A2 : Option Addr) (a2 : Nat) : Prop where
 k0 : Wk c S F As cs Ds ds i w0 bx q A ac D dc V vc o
 box : Cells w bx 66 (rpv ⟨L2, q.known, q.last, q.held⟩ A2 a2 D dc)
 win : OwnG 3 1 iv c.B w (.slice A2 L2.length a2) L2
 only : Only (fun k => k = bx ∨ some k = blk A) w0 w
 newA : ∀ k, blk A2 = some k → some k = blk A ∨ w0.heap.size ≤ k
section
variable {c : Ctx} {S : Sm} {F : Nat → Prop} {As Ds : Nat → Option Addr} {cs ds : Nat → Nat} {i bx ac dc vc a2 : Nat} {w0 w w' : World} {q : Pm} {A D V A2 : Option Addr} {o : List Ot} {L2 : List Int}
theorem Wk.ap (h : Wk c S F As cs Ds ds i w bx q A ac D dc V vc o) : ∀ k, blk A = some k → k ≠ c.pb := fun k e e2 => by
 rcases (h.nA k e).2.1 with e3 | e3
 ·exact (h.ses.sA i k h.hi e3.symm).2 e2
 ·exact e3.2 (by rw [e2]; exact h.ses.fp)
theorem Wk.dp (h : Wk c S F As cs Ds ds i w bx q A ac D dc V vc o) : ∀ k, blk D = some k → k ≠ c.pb := fun k e e2 => by
 rcases (h.nD k e).2 with e3 | e3
 ·exact (h.ses.sD i k h.hi e3.symm).2 e2
 ·exact e3.2 (by rw [e2]; exact h.ses.fp)
theorem Wz.later (h : Wz c S F As cs Ds ds i w0 bx q A ac D dc V vc o w L2 A2 a2) (hb : Below w.heap.size w w') : Wz c S F As cs Ds ds i w0 bx q A ac D dc V vc o w' L2 A2 a2 :=
 ⟨h.k0, h.box.later hb, OwnG.later h.win hb, h.only.trans (S' := fun _ => False) (Only.of_below hb) fun _ _ e => e.elim, h.newA⟩
/-- Where the peer lies in the session. -/
theorem Wz.cel (h : Wz c S F As cs Ds ds i w0 bx q A ac D dc V vc o w L2 A2 a2) (hi : i < S.peers.length) : CellsO w c.pb (i * 4) (rpv S.peers[i] (As i) (cs i) (Ds i) (ds i)) ∧ Cells w c.rb 69 [.int .i64 S.node, .int .i64 S.epoch, .slice (some ⟨c.pb, 0, none⟩) S.peers.length c.pc] := by
 have h0 := h.k0
 have hp := (h0.ses.peer i hi).1
 refine ⟨hp.only h.only fun e => ?_, cells_only h0.ses.cel h.only fun e => ?_⟩
 ·rcases e with e | e
  ·exact h0.nb (by rw [← e]; exact h0.ses.fp)
  ·exact h0.ap _ e.symm rfl
 ·rcases e with e | e
  ·exact h0.nb (by rw [← e]; exact h0.ses.fs)
  ·rcases (h0.nA _ e.symm).2.1 with e3 | e3
   ·exact (h0.ses.sA i _ h0.hi e3.symm).1 rfl
   ·exact e3.2 h0.ses.fs
/-- The peer is put back into the session. -/
theorem Wz.back (h : Wz c S F As cs Ds ds i w0 bx q A ac D dc V vc o w L2 A2 a2) : ∃ F', RStep c.B c.F0 c.w1 c.rb { S with peers := S.peers.set i ⟨L2, q.known, q.last, q.held⟩ } F' (w.setCells c.pb (i * 4) (rpv ⟨L2, q.known, q.last, q.held⟩ A2 a2 D dc)) ∧
  OwnG 121 6 Ot.vals c.w1.heap.size (w.setCells c.pb (i * 4) (rpv ⟨L2, q.known, q.last, q.held⟩ A2 a2 D dc)) (.slice V o.length vc) o ∧ ∀ k, blk V = some k → ¬ F' k := by
 have h0 := h.k0
 have hp := (h.cel h0.hi).1
 have hset : Only (fun k => k = c.pb) w (w.setCells c.pb (i * 4) (rpv ⟨L2, q.known, q.last, q.held⟩ A2 a2 D dc)) :=
  (((Only.of_set w ⟨c.pb, i * 4, none⟩ _).trans (Only.of_set _ ⟨c.pb, i * 4 + 1, none⟩ _) fun _ _ e => e).trans (Only.of_set _ ⟨c.pb, i * 4 + 2, none⟩ _) fun _ _ e => e).trans (Only.of_set _ ⟨c.pb, i * 4 + 3, none⟩ _) fun _ _ e => e
 have hkp : Keeps c.pb (i * 4) 4 w (w.setCells c.pb (i * 4) (rpv ⟨L2, q.known, q.last, q.held⟩ A2 a2 D dc)) :=
  (((Keeps.set w c.pb (i * 4) 4 (j := 0) (by decide) _).trans (Keeps.set _ c.pb (i * 4) 4 (j := 1) (by decide) _)).trans (Keeps.set _ c.pb (i * 4) 4 (j := 2) (by decide) _)).trans (Keeps.set _ c.pb (i * 4) 4 (j := 3) (by decide) _)
 have hce : CellsO (w.setCells c.pb (i * 4) (rpv ⟨L2, q.known, q.last, q.held⟩ A2 a2 D dc)) c.pb (i * 4) (rpv ⟨L2, q.known, q.last, q.held⟩ A2 a2 D dc) := (((hp.set_ 0 _).set_ 1 _).set_ 2 _).set_ 3 _
 have hpb : ¬ (c.pb = bx ∨ some c.pb = blk A) := fun e => by
  rcases e with e | e
  ·exact h0.nb (by rw [← e]; exact h0.ses.fp)
  ·exact h0.ap _ e.symm rfl
 have hA2p : ∀ k, blk A2 = some k → k ≠ c.pb := fun k e e2 => by
  rcases h.newA k e with e3 | e3
  ·exact h0.ap k e3.symm e2
  ·have := h0.ses.lt _ h0.ses.fp
   omega
 have hwin := row_only h.win hset fun k e => hA2p k (by rw [own_blk] at e; exact e)
 have hrow := row_only (row_only h0.row h.only fun k e e2 => by
  rw [own_blk] at e
  rcases e2 with e2 | e2
  ·exact (h0.nD k e).1 e2
  ·exact (h0.nA k e2.symm).2.2 e) hset fun k e => h0.dp k (by rw [own_blk] at e; exact e)
 have hout := row_only (row_only h0.out h.only fun k e e2 => by
  rw [own_blk] at e
  rcases e2 with e2 | e2
  ·exact (h0.nV k e).1 e2
  ·exact (h0.nV k e).2.2.2 e2.symm) hset fun k e e2 => (h0.nV k (by rw [own_blk] at e; exact e)).2.1 (by rw [show k = c.pb from e2]; exact h0.ses.fp)
 have hon : Only (fun k => k = c.pb ∨ some k = blk (As i) ∨ (k = bx ∨ some k = blk A ∧ c.w1.heap.size ≤ k ∧ ¬ F k)) w0 (w.setCells c.pb (i * 4) (rpv ⟨L2, q.known, q.last, q.held⟩ A2 a2 D dc)) := by
  refine (h.only.mono fun k _ e => ?_).trans (hset.mono fun k _ e => Or.inl e) fun _ _ e => e
  rcases e with e | e
  ·exact Or.inr (Or.inr (Or.inl e))
  ·rcases (h0.nA k e.symm).2.1 with e3 | e3
   ·exact Or.inr (Or.inl e3)
   ·exact Or.inr (Or.inr (Or.inr ⟨e, e3⟩))
 have hA9 : ∀ k, blk A2 = some k → some k = blk (As i) ∨ (c.w1.heap.size ≤ k ∧ ¬ F k) := fun k e => by
  rcases h.newA k e with e3 | e3
  ·exact (h0.nA k e3.symm).2.1
  ·exact Or.inr ⟨Nat.le_trans h0.siz e3, fun e4 => by have := h0.ses.lt k e4; omega⟩
 have hO9 : ∀ k, blk A2 = some k → blk D = some k → False := fun k e e2 => by
  rcases h.newA k e with e3 | e3
  ·exact (h0.nA k e3.symm).2.2 e2
  ·have := (h0.row.lt k (by rw [own_blk]; exact e2)).2
   omega
 obtain ⟨F', ⟨h1, h2⟩, _, _⟩ := RStep.putT h0.stp h0.ses h0.hi (p' := ⟨L2, q.known, q.last, q.held⟩) (A' := A2) (D' := D) (ac' := a2) (dc' := dc) (T := fun k => k = bx ∨ some k = blk A ∧ c.w1.heap.size ≤ k ∧ ¬ F k) ⟨hce, ⟨hwin, hrow⟩, hon, (Keeps.off h.only hpb).trans hkp, hA9, fun k e => (h0.nD k e).2, hO9⟩
  (fun k e e2 => by
   rcases e with e | e
   ·exact h0.nb (by rw [← e]; exact e2)
   ·exact e.2.2 e2) (fun k e => by
   rcases e with e | e
   ·rw [e]; exact h0.bx1
   ·exact e.2.1)
 refine ⟨F', h1, hout, fun k e e2 => ?_⟩
 rcases h2 k e2 with e3 | e3 | e3
 ·exact (h0.nV k e).2.1 e3
 ·rcases h.newA k e3 with e4 | e4
  ·exact (h0.nV k e).2.2.2 e4.symm
  ·have := (h0.out.lt k (by rw [own_blk]; exact e)).2
   omega
 ·exact (h0.nV k e).2.2.1 e3
end
end Go.Proofs.Ytccdpgbmkiapdaa.Ses
