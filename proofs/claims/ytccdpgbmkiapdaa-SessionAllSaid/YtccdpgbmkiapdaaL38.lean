/-
  Layer 14, the document's Take: from what is stale on.
  Layer 14, the document's Take: a new incarnation.
  Layer 14: what the document's Right says of an envelope. Taken out of XSesRefB by program.
  Layer 14, the document's session: Take.
  Layer 14, SessionPlays: what stays true of the session, call by call (pure); both side by side.
  Conditions: none.
-/
import Derived.Test.YtccdpgbmkiapdaaL37
import Derived.Test.YtccdpgbmkiapdaaL24
import Derived.Test.YtccdpgbmkiapdaaL22
import Derived.BigQuiet
import Derived.Test.YtccdpgbmkiapdaaL18
import Derived.Test.YtccdpgbmkiapdaaL9
import Derived.Test.YtccdpgbmkiapdaaL34
import Derived.Test.YtccdpgbmkiapdaaL36
import Derived.Test.YtccdpgbmkiapdaaL27
namespace Go.Proofs.Ytccdpgbmkiapdaa.Ses
set_option maxRecDepth 100000
open Go.RowKit Go.Deep Go.Proofs.Ytccdpgbmkiapdaa.Mem Go.Proofs.Ytccdpgbmkiapdaa.Win
/-- What is owed at the end of Take. -/
def TkEnds (B rb : Nat) (F0 : Nat → Prop) (w1 : World) (R : ByteArray × List Ot × Int × Sm) (e : Ending) (w' : World) : Prop :=
 ∃ V vc F', e = .returned (.tuple #[.string R.1, .slice V R.2.1.length vc, .int .i64 R.2.2.1]) ∧ OwnG 121 6 Ot.vals w1.heap.size w' (.slice V R.2.1.length vc) R.2.1 ∧ RStep B F0 w1 rb R.2.2.2 F' w' ∧ ∀ k, blk V = some k → ¬ F' k
/-- What is kept of what is held. -/
def keepH (e : Ev) (h : Hd) : Bool := decide (e.peer = 0 ∨ h.seq ≠ e.seq)
end Go.Proofs.Ytccdpgbmkiapdaa.Ses
namespace Go.Proofs.Ytccdpgbmkiapdaa.Ses
set_option maxRecDepth 100000
open Go.RowKit Go.Deep Go.Proofs.Ytccdpgbmkiapdaa.Mem Go.Proofs.Ytccdpgbmkiapdaa.Win
/-- Behind what is stale. -/
def midM (S : Sm) (x : Int) (e : Ev) (p : Pm) : ByteArray × List Ot × Int × Sm :=
 if p.known < e.epoch then tailM (putP S x (meetP p e.epoch).2) x e (if (meetP p e.epoch).1 then dataL x S.epoch (meetP p e.epoch).2.known (meetP p e.epoch).2.held else []) else tailM S x e []
end Go.Proofs.Ytccdpgbmkiapdaa.Ses
namespace Go.Proofs.Ytccdpgbmkiapdaa.Ses
set_option maxRecDepth 100000
open Go.RowKit Go.Deep Go.Proofs.Ytccdpgbmkiapdaa.Mem Go.Proofs.Ytccdpgbmkiapdaa.Win
end Go.Proofs.Ytccdpgbmkiapdaa.Ses
namespace Go.Proofs.Ytccdpgbmkiapdaa.Ses
set_option maxRecDepth 100000
open Go.RowKit Go.Deep Go.Proofs.Ytccdpgbmkiapdaa.Mem Go.Proofs.Ytccdpgbmkiapdaa.Win
section
variable {B rb N : Nat} {F : Nat → Prop} {w : World} {S : Sm}
end
end Go.Proofs.Ytccdpgbmkiapdaa.Ses
namespace Go.Proofs.Ytccdpgbmkiapdaa.Ses
set_option maxRecDepth 100000
open Go.RowKit Go.Deep Go.Proofs.Ytccdpgbmkiapdaa.Mem Go.Proofs.Ytccdpgbmkiapdaa.Win
/-- No window has seen more than m. -/
def LenS (m : Nat) (S : Sm) : Prop := ∀ p ∈ S.peers, p.L.length ≤ m
section
variable {m : Nat} {S : Sm} {x : Int} {p : Pm}
theorem LenS.mono (h : LenS m S) {n : Nat} (hn : m ≤ n) : LenS n S := fun p hp => Nat.le_trans (h p hp) hn
theorem LenS.put (h : LenS m S) (x : Int) (hp : p.L.length ≤ m) : LenS m (putP S x p) := fun q hq => by
 rcases List.mem_or_eq_of_mem_set hq with h1 | h1
 ·exact h q h1
 ·rw [h1]; exact hp
theorem LenS.peer (h : LenS m S) (x : Int) : (peerOf S x).L.length ≤ m := by
 unfold peerOf
 cases e : S.peers[(x - 1).toNat]? with
 | none => exact Nat.zero_le _
 | some q => exact h q (List.mem_of_getElem? e)
theorem sendM_len (h : LenS m S) (x : Int) (ss : List ByteArray) : LenS m (sendM S x ss).2.2 := by
 unfold sendM
 split
 ·exact h
 ·split
  ·exact h
  ·split
   ·exact h
   ·exact h.put x (h.peer x)
theorem tailM_len (h : LenS m S) (x : Int) (e : Ev) (out : List Ot) : LenS (m + 1) (tailM S x e out).2.2.2 := by
 have h1 := h.mono (Nat.le_succ m)
 unfold tailM
 split
 ·exact h1
 ·split
  ·show LenS (m + 1) (if e.peer = 0 then S else putP S x (goP (peerOf S x) e.seq))
   split
   ·exact h1
   ·exact h1.put x (h1.peer x)
  ·split
   ·exact h1
   ·exact h1.put x (by rw [List.length_append]; have := h.peer x; simp; omega)
theorem takeM_len (h : LenS m S) (x : Int) (e : Ev) : LenS (m + 1) (takeM S x e).2.2.2 := by
 have h1 := h.mono (Nat.le_succ m)
 unfold takeM
 split
 ·exact h1
 ·split
  ·exact h1
  ·split
   ·exact h1
   ·split
    ·exact tailM_len (h.put x (by unfold meetP; split <;> exact Nat.zero_le _)) x e _
    ·exact tailM_len h x e _
theorem tickM_len (h : LenS m S) : LenS m (tickM S).2 := fun q hq => by
 obtain ⟨p, hp, rfl⟩ := List.mem_map.1 hq
 exact h p hp
/-- What stays true of the session behind m calls. -/
structure Pq (S : Sm) (m : Nat) : Prop where
 ok : Sok ((1000 + 80 * m : Nat) : Int) S
 lone : Lone S
 near : NearS S
 len : LenS m S
theorem Pq.skip (h : Pq S m) : Pq S (m + 1) := ⟨h.ok.mono (by omega), h.lone, h.near, h.len.mono (Nat.le_succ m)⟩
theorem Pq.send (h : Pq S m) (x : Int) {ss : List ByteArray} (hs : ss.length ≤ 80) : Pq (sendM S x ss).2.2 (m + 1) :=
 ⟨(sendM_ok h.ok (by omega) x ss).mono (by omega), sendM_lone h.lone x ss, sendM_near h.near x ss, (sendM_len h.len x ss).mono (Nat.le_succ m)⟩
theorem Pq.take (h : Pq S m) (x : Int) (e : Ev) : Pq (takeM S x e).2.2.2 (m + 1) :=
 ⟨(takeM_ok h.ok (by omega) x e).mono (by omega), takeM_lone h.lone x e, takeM_near h.near x e, takeM_len h.len x e⟩
theorem Pq.tick (h : Pq S m) : Pq (tickM S).2 (m + 1) :=
 ⟨(tickM_ok h.ok).mono (by omega), tickM_lone h.lone, tickM_near h.near, (tickM_len h.len).mono (Nat.le_succ m)⟩
theorem sendM_few (x : Int) (ss : List ByteArray) : (sendM S x ss).1.length ≤ ss.length := by
 unfold sendM
 split
 ·exact Nat.zero_le _
 ·split
  ·exact Nat.zero_le _
  ·split
   ·exact Nat.zero_le _
   ·show (dataL _ _ _ _).length ≤ _
    unfold dataL
    rw [List.length_map, newHd_len]
    exact Nat.le_refl _
theorem tailM_few (x : Int) (e : Ev) (out : List Ot) : (tailM S x e out).2.1.length ≤ out.length + 1 := by
 unfold tailM
 split
 ·simp
 ·split
  ·simp
  ·split <;> simp
theorem takeM_few {N : Int} (h : Sok N S) (hN : 0 ≤ N) (x : Int) (e : Ev) : (takeM S x e).2.1.length ≤ 40 := by
 have hp := (h.peer hN x).len
 unfold takeM
 split
 ·exact Nat.zero_le _
 ·split
  ·exact Nat.zero_le _
  ·split
   ·exact Nat.zero_le _
   ·split
    ·refine Nat.le_trans (tailM_few x e _) ?_
     split
     ·unfold dataL
      rw [List.length_map]
      unfold meetP
      split
      ·show (peerOf S x).held.length + 1 ≤ 40; omega
      ·show ((peerOf S x).held.map beginH).length + 1 ≤ 40; rw [List.length_map]; omega
     ·simp
    ·exact Nat.le_trans (tailM_few x e _) (by simp)
theorem dueL_few (l : List Hd) : (dueL l).length ≤ l.length := by unfold dueL; rw [List.length_map]; exact List.length_filter_le _ _
theorem tickO_few (ep : Int) : ∀ (l : List Pm) (i : Nat), (∀ p ∈ l, p.held.length ≤ 32) → (tickO ep i l).length ≤ 32 * l.length
 | [], _, _ => Nat.le_refl _
 | p :: r, i, h => by
  have h1 := tickO_few ep r (i + 1) fun q hq => h q (List.mem_cons_of_mem _ hq)
  have h2 := dueL_few p.held
  have h3 := h p List.mem_cons_self
  show (dataL _ _ _ (dueL p.held) ++ tickO ep (i + 1) r).length ≤ 32 * (r.length + 1)
  unfold dataL
  rw [List.length_append, List.length_map]
  omega
theorem tickM_few {N : Int} (h : Sok N S) : (tickM S).1.length ≤ 512 := by
 have h1 := tickO_few S.epoch S.peers 0 fun p hp => (h.peers p hp).len
 have h2 := h.n2
 show (tickO S.epoch 0 S.peers).length ≤ 512
 omega
end
/-- A session of the document's lies from an elder place on, too. -/
theorem RAt.base {B B' rb : Nat} {F : Nat → Prop} {w : World} {S : Sm} (h : RAt B F w rb S) (hb : B' ≤ B) : RAt B' F w rb S := by
 obtain ⟨pb, pc, As, cs, Ds, ds, hx⟩ := h
 exact ⟨pb, pc, As, cs, Ds, ds, hx.cel, fun i hi => ⟨(hx.peer i hi).1, own_up hb (hx.peer i hi).2.win, own_up hb (hx.peer i hi).2.row⟩, hx.apart, hx.off, hx.fs, hx.fp, hx.fA, hx.fD, hx.sp, hx.sA, hx.sD, fun k e => Nat.le_trans hb (hx.low k e), hx.lt, hx.cap⟩
/-- Both are there, behind the world w0. -/
structure Pb (w0 : World) (Bs sb rb : Nat) (w : World) (Sa Sb : Sm) (FA FB : Nat → Prop) : Prop where
 both : Both Bs w sb rb Sa Sb FA FB
 bel : Below w0.heap.size w0 w
 low : w0.heap.size ≤ Bs
 siz : Bs ≤ w.heap.size
section
variable {w0 w w' : World} {Bs sb rb : Nat} {Sa Sb S' : Sm} {FA FB F' : Nat → Prop}
theorem Pb.later (h : Pb w0 Bs sb rb w Sa Sb FA FB) (hb : Below w.heap.size w w') : Pb w0 Bs sb rb w' Sa Sb FA FB := ⟨h.both.later hb, h.bel.trans (hb.mono (Nat.le_trans h.low h.siz)), h.low, Nat.le_trans h.siz hb.size⟩
theorem Pb.stepS (h : Pb w0 Bs sb rb w Sa Sb FA FB) (hs : SStep Bs FA w sb S' F' w') : Pb w0 Bs sb rb w' S' Sb F' FB :=
 ⟨h.both.stepS hs, h.bel.trans (hs.only.below (Nat.le_trans h.low h.siz) fun k e => Nat.le_trans h.low (h.both.code.low k e)), h.low, Nat.le_trans h.siz hs.only.size⟩
theorem Pb.stepR (h : Pb w0 Bs sb rb w Sa Sb FA FB) (hs : RStep Bs FB w rb S' F' w') : Pb w0 Bs sb rb w' Sa S' FA F' :=
 ⟨h.both.stepR hs, h.bel.trans (hs.only.below (Nat.le_trans h.low h.siz) fun k e => Nat.le_trans h.low (h.both.doc.low k e)), h.low, Nat.le_trans h.siz hs.only.size⟩
end
end Go.Proofs.Ytccdpgbmkiapdaa.Ses
