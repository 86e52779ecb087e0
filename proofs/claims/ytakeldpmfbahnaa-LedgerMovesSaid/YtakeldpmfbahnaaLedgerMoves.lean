/-
  Layer 8: a cell that goes round among nodes: LedgerMoves.
  Layer 8: a cell that goes round among nodes: pieces of LedgerMoves.
  Layer 8: a cell that goes round among nodes: pieces of LedgerMoves.
  Layer 8: a cell that goes round among nodes: pieces of LedgerMoves.
  Layer 8: a cell that goes round among nodes: pieces of LedgerMoves.
  Layer 8: a cell that goes round among nodes: pieces of LedgerMoves.
  Layer 8: a cell that goes round among nodes: pieces of LedgerMoves.
  Layer 8: a cell that goes round among nodes: pieces of LedgerMoves.
  Layer 8: a cell that goes round among nodes: pieces of LedgerMoves.
  Layer 8: a cell that goes round among nodes: pieces of LedgerMoves.
  Layer 8: a cell that goes round among nodes: pieces of LedgerMoves.
  Conditions: none.
-/
import Derived.Test.YtakeldpmfbahnaaLedLaw
import Derived.Deep.AppendLies
import Derived.Test.YtakeldpmfbahnaaOpen

namespace Go.Proofs.Ytakeldpmfbahnaa.LedgerMoves
set_option maxRecDepth 100000
open Go.ChangeShapes Go.WideShapes Go.ChangeAt Go.RowKit Go.Deep Go.Proofs.Ytakeldpmfbahnaa.Mem Go.Proofs.Ytakeldpmfbahnaa.Item Go.Proofs.Ytakeldpmfbahnaa.Rec Go.Proofs.Ytakeldpmfbahnaa.Led

/-- The records of a round. -/
def mvT (k : Int) : Tid := ⟨1, 1, k⟩
def mvI (ver val new : Int) : It := ⟨0, ver, val, true, new⟩
def mvP (k ver val new a : Int) : Rc := ⟨4, mvT k, [mvI ver val new], [a], 0, 0, 0, 0, 0, 0, 0, 0, false⟩
def mvO (hop b : Int) : Rc := ⟨8, ⟨0, 0, 0⟩, [], [], b, 0, 0, 0, 0, hop, 0, 0, false⟩
def mvD (k : Int) : Rc := ⟨6, mvT k, [], [], 0, 0, 0, 0, 0, 0, 0, 0, true⟩
def mvN (hop ver val : Int) : Rc := ⟨9, ⟨0, 0, 0⟩, [], [], 0, 0, 0, 0, 0, hop, ver, val, false⟩
def mvG (hop : Int) : Rc := ⟨10, ⟨0, 0, 0⟩, [], [], 0, 0, 0, 0, 0, hop, 0, 0, false⟩
theorem mvP_right {k ver val new a : Int} (h1 : 1 ≤ k ∧ k ≤ 1000) (h2 : 0 ≤ ver ∧ ver ≤ 1000) (h3 : 1 ≤ a ∧ a ≤ 16) : right (mvP k ver val new a) = true := by
  have ht : rightTid (mvT k) = true := by unfold rightTid mvT; simp; omega
  have hi : rightItems [mvI ver val new] = true := by unfold rightItems rightFrom rightIt mvI rightFrom; simp; omega
  have hn : rightNodes [a] = true := by unfold rightNodes nodesFrom; simp [nodesFrom]; omega
  have ht2 : rightTid ⟨1, 1, k⟩ = true := ht
  simp [right, othersB, left, hasB, fl, mvP, rf, ht2, hi, hn, mvT]
theorem mvO_right {hop b : Int} (h1 : 1 ≤ hop ∧ hop ≤ 1000) (h3 : 1 ≤ b ∧ b ≤ 16) : right (mvO hop b) = true := by
  simp [right, othersB, left, hasB, fl, mvO, rf, lims, nodeLim, Rc.get, Rc.numV, t0B]
  omega
theorem mvN_right {hop ver val : Int} (h1 : 1 ≤ hop ∧ hop ≤ 1000) (h2 : 0 ≤ ver ∧ ver ≤ 1000) (h3 : -1000 ≤ val ∧ val ≤ 1000) : right (mvN hop ver val) = true := by
  simp [right, othersB, left, hasB, fl, mvN, rf, lims, nodeLim, Rc.get, Rc.numV, t0B]
  omega
theorem mvG_right {hop : Int} (h1 : 1 ≤ hop ∧ hop ≤ 1000) : right (mvG hop) = true := by
  simp [right, othersB, left, hasB, fl, mvG, rf, lims, nodeLim, Rc.get, Rc.numV, t0B]
  omega
theorem mvD_right {k : Int} (h1 : 1 ≤ k ∧ k ≤ 1000) : right (mvD k) = true := right_rcD true (by unfold rightTid mvT; simp; omega)
/-- A node of a round, whose only cell stands so. -/
structure Nd (n : Nat) (i : Nat) (K : Nat) (s : St) (q : Pl) : Prop where
  node : s.node = (i : Int) + 1
  nodes : s.nodes = (n : Int)
  places : s.places = [q]
  prep : s.prep = []
  dec : ∀ d ∈ s.dec, d.tid.seq ≤ (K : Int)
  len : s.dec.length ≤ K
  com : s.com = []
theorem Nd.has {n i K : Nat} {s : St} {q : Pl} (h : Nd n i K s q) : hasC s 0 = true := by unfold hasC; rw [h.places]; simp
theorem Nd.at0 {n i K : Nat} {s : St} {q : Pl} (h : Nd n i K s q) : plAt s 0 = q := by unfold plAt; rw [h.places]; rfl
theorem Nd.owns {n i K : Nat} {s : St} {q : Pl} (h : Nd n i K s q) : owns s 0 = decide (q.status = 1) := by unfold Led.owns; rw [h.has, h.at0, Bool.true_and]
theorem Nd.free {n i K : Nat} {s : St} {q : Pl} (h : Nd n i K s q) : locked s 0 = false := by unfold locked; rw [h.prep]; simp
theorem Nd.mono {n i K K' : Nat} {s : St} {q : Pl} (h : Nd n i K s q) (hk : K ≤ K') : Nd n i K' s q := ⟨h.node, h.nodes, h.places, h.prep, fun d hd => Int.le_trans (h.dec d hd) (by omega), Nat.le_trans h.len hk, h.com⟩
theorem Nd.setPl {n i K : Nat} {s : St} {q : Pl} (h : Nd n i K s q) (p : Pl) : Nd n i K (setPl s 0 p) p := ⟨h.node, h.nodes, by show s.places.set 0 p = [p]; rw [h.places]; rfl, h.prep, h.dec, h.len, h.com⟩
theorem Nd.unknown {n i K : Nat} {s : St} {q : Pl} (h : Nd n i K s q) {k : Int} (hk : (K : Int) < k) : known s (mvT k) = false := by
  unfold known
  have h1 : at_prep s (mvT k) < 0 := (idx_neg _ _).2 fun p hp => by rw [h.prep] at hp; cases hp
  have h2 : at_dec s (mvT k) < 0 := (idx_neg _ _).2 fun d hd => decide_eq_false fun e => by
    have := h.dec d hd
    rw [e] at this
    simp only [mvT] at this
    omega
  rw [decide_eq_false (by omega), decide_eq_false (by omega)]
  rfl
/-- It is prepared. -/
def mvS1 (s : St) (k ver val new a : Int) : St := { s with prep := [⟨mvT k, [mvI ver val new], [a]⟩] }
theorem follow_kind {s : St} {r : Rc} (h : right r = true) : fFollow s r = byKind s r := by unfold fFollow; rw [h, if_neg (by decide)]
theorem mv_prepare {n i K : Nat} {s : St} {q : Pl} (h : Nd n i K s q) (hq : q.status = 1) (hi : i < n) (hn : n ≤ 16) (hK : K ≤ 100) (hv : 0 ≤ q.version ∧ q.version ≤ 1000) (new : Int) :
    fFollow s (mvP ((K : Int) + 1) q.version q.value new ((i : Int) + 1)) = (mvS1 s ((K : Int) + 1) q.version q.value new ((i : Int) + 1), 0) := by
  rw [follow_kind (mvP_right (by omega) hv (by omega))]
  have e : byKind s (mvP ((K : Int) + 1) q.version q.value new ((i : Int) + 1)) = fPrepare s (mvP ((K : Int) + 1) q.version q.value new ((i : Int) + 1)) := by
    unfold byKind
    rfl
  rw [e]
  unfold fPrepare
  have e1 : known s (mvP ((K : Int) + 1) q.version q.value new ((i : Int) + 1)).tid = false := h.unknown (by omega)
  have e2 : allC s (mvP ((K : Int) + 1) q.version q.value new ((i : Int) + 1)).items = true := by
    show List.all [_] _ = true
    simp only [List.all_cons, List.all_nil, Bool.and_true]
    exact h.has
  have e3 : above s [(mvP ((K : Int) + 1) q.version q.value new ((i : Int) + 1)).tid.node] = false := by
    show List.any [(1 : Int)] _ = false
    simp [h.nodes]
    omega
  have e4 : above s (mvP ((K : Int) + 1) q.version q.value new ((i : Int) + 1)).nodes = false := by
    show List.any [(i : Int) + 1] _ = false
    simp [h.nodes]
    omega
  have e5 : isPart s (mvP ((K : Int) + 1) q.version q.value new ((i : Int) + 1)).nodes = true := by
    show List.any [(i : Int) + 1] _ = true
    simp [h.node]
  have e6 : firstE s (mvP ((K : Int) + 1) q.version q.value new ((i : Int) + 1)).items = 0 := by
    have hl : lockE s (mvI q.version q.value new) = 0 := by
      unfold lockE
      have o : owns s (mvI q.version q.value new).cell = true := by rw [show (mvI q.version q.value new).cell = 0 from rfl, h.owns, hq]; rfl
      have f : locked s (mvI q.version q.value new).cell = false := h.free
      rw [o, f, if_neg (by decide), if_neg (by decide), if_neg]
      rw [show (mvI q.version q.value new).cell = 0 from rfl, h.at0]
      exact fun k => k rfl
    show firstE s [mvI q.version q.value new] = 0
    unfold firstE
    rw [if_pos hl]
    rfl
  have e7 : room s = true := by
    unfold room
    rw [h.prep]
    have := h.len
    simp
    omega
  rw [e1, e2, e3, e4, e5, e6, e7]
  simp only [Bool.false_eq_true, if_false, Bool.true_eq_false, if_true]
  have e8 : prepS s (mvP ((K : Int) + 1) q.version q.value new ((i : Int) + 1)) = mvS1 s ((K : Int) + 1) q.version q.value new ((i : Int) + 1) := by
    unfold prepS mvS1
    rw [h.prep]
    rfl
  rw [e8]
theorem mv_locked {n i K : Nat} {s : St} {q : Pl} (h : Nd n i K s q) (k ver val new a : Int) : locked (mvS1 s k ver val new a) 0 = true := by
  unfold locked
  have : hasC (mvS1 s k ver val new a) 0 = true := h.has
  rw [this]
  rfl
theorem mv_refuse {n i K : Nat} {s : St} {q : Pl} (h : Nd n i K s q) (hq : q.status = 1) (k ver val new a : Int) {hop : Int} {b : Nat} (h1 : 1 ≤ hop ∧ hop ≤ 1000) (hb : b < n) (hn : n ≤ 16) (hne : b ≠ i) : (fFollow (mvS1 s k ver val new a) (mvO hop ((b : Int) + 1))).2 ≠ 0 := by
  rw [follow_kind (mvO_right h1 (by omega))]
  have e : byKind (mvS1 s k ver val new a) (mvO hop ((b : Int) + 1)) = fOut (mvS1 s k ver val new a) (mvO hop ((b : Int) + 1)) := by unfold byKind; rfl
  rw [e]
  unfold fOut
  have e1 : hasC (mvS1 s k ver val new a) (mvO hop ((b : Int) + 1)).cell = true := h.has
  have e2 : ¬ (mvO hop ((b : Int) + 1)).node = (mvS1 s k ver val new a).node := by show ¬ ((b : Int) + 1 = s.node); rw [h.node]; omega
  have e3 : above (mvS1 s k ver val new a) [(mvO hop ((b : Int) + 1)).node] = false := by
    show List.any [(b : Int) + 1] (fun m => decide (s.nodes < m)) = false
    simp [h.nodes]
    omega
  have e4 : owns (mvS1 s k ver val new a) (mvO hop ((b : Int) + 1)).cell = true := by show owns s 0 = true; rw [h.owns, hq]; rfl
  have e5 : locked (mvS1 s k ver val new a) (mvO hop ((b : Int) + 1)).cell = true := mv_locked h k ver val new a
  rw [e1, if_neg (by decide), if_neg e2, e3, if_neg (by decide), e4, if_neg (by decide), e5, if_pos rfl]
  simp
/-- It is done. -/
theorem mv_done {n i K : Nat} {s : St} {q : Pl} (h : Nd n i K s q) (ver val new a : Int) (hK : K ≤ 100) (hv : 0 ≤ q.version ∧ q.version ≤ 1000) :
    (fFollow (mvS1 s ((K : Int) + 1) ver val new a) (mvD ((K : Int) + 1))).2 = 0 ∧ Nd n i (K + 1) (fFollow (mvS1 s ((K : Int) + 1) ver val new a) (mvD ((K : Int) + 1))).1 ⟨q.status, q.hop, q.to, q.version + 1, new⟩ := by
  have hp : at_prep (mvS1 s ((K : Int) + 1) ver val new a) (mvD ((K : Int) + 1)).tid = ((0 : Nat) : Int) := idx_at (mvS1 s ((K : Int) + 1) ver val new a).prep Pr.tid (by show ([_] : List Tid).Nodup; simp) 0 (by show 0 < 1; decide)
  have e : fFollow (mvS1 s ((K : Int) + 1) ver val new a) (mvD ((K : Int) + 1)) = (done (mvS1 s ((K : Int) + 1) ver val new a) 0 (mvD ((K : Int) + 1)), 0) := by
    rw [follow_kind (mvD_right (by omega))]
    have e : byKind (mvS1 s ((K : Int) + 1) ver val new a) (mvD ((K : Int) + 1)) = fDecide (mvS1 s ((K : Int) + 1) ver val new a) (mvD ((K : Int) + 1)) := by unfold byKind; rfl
    rw [e, fDecide_done hp]
  rw [e]
  have hh : hasC (mvS1 s ((K : Int) + 1) ver val new a) (mvI ver val new).cell = true := h.has
  have hw : writeL (mvS1 s ((K : Int) + 1) ver val new a) (prItems (mvS1 s ((K : Int) + 1) ver val new a) 0) = setPl (mvS1 s ((K : Int) + 1) ver val new a) 0 ⟨q.status, q.hop, q.to, q.version + 1, new⟩ := by
    show writeOne (mvS1 s ((K : Int) + 1) ver val new a) (mvI ver val new) = _
    unfold writeOne
    rw [if_pos ⟨rfl, hh⟩]
    have e0 : plAt (mvS1 s ((K : Int) + 1) ver val new a) (mvI ver val new).cell = q := h.at0
    rw [e0, IntWalk.i64_in _ (by omega)]
    rfl
  have hs : done (mvS1 s ((K : Int) + 1) ver val new a) 0 (mvD ((K : Int) + 1)) = conc { s with places := [⟨q.status, q.hop, q.to, q.version + 1, new⟩], prep := [] } (mvD ((K : Int) + 1)) := by
    unfold done
    rw [if_pos (show (mvD ((K : Int) + 1)).yes = true from rfl), hw]
    unfold setPl mvS1
    simp only [cut, List.take_zero, List.nil_append, List.drop_succ_cons, List.drop_nil]
    rw [h.places]
    rfl
  rw [hs]
  refine ⟨rfl, h.node, h.nodes, rfl, rfl, fun d hd => ?_, ?_, h.com⟩
  · rcases List.mem_cons.1 ((insD_perm s.dec ⟨mvT ((K : Int) + 1), true⟩).mem_iff.1 hd) with e | e
    · rw [e]
      simp [mvT]
    · have := h.dec d e
      omega
  · have := (insD_perm s.dec ⟨mvT ((K : Int) + 1), true⟩).length_eq
    have hl := h.len
    show (insD s.dec ⟨mvT ((K : Int) + 1), true⟩).length ≤ K + 1
    rw [this, List.length_cons]
    omega
/-- It leaves. -/
theorem mv_out {n i K : Nat} {s : St} {q : Pl} (h : Nd n i K s q) (hq : q.status = 1) {b : Nat} (h1 : 0 ≤ q.hop ∧ q.hop < 1000) (hb : b < n) (hn : n ≤ 16) (hne : b ≠ i) :
    fFollow s (mvO (q.hop + 1) ((b : Int) + 1)) = (setPl s 0 ⟨2, q.hop + 1, (b : Int) + 1, q.version, q.value⟩, 0) := by
  rw [follow_kind (mvO_right (by omega) (by omega))]
  have e : byKind s (mvO (q.hop + 1) ((b : Int) + 1)) = fOut s (mvO (q.hop + 1) ((b : Int) + 1)) := by unfold byKind; rfl
  rw [e]
  unfold fOut
  have e1 : hasC s (mvO (q.hop + 1) ((b : Int) + 1)).cell = true := h.has
  have e2 : ¬ (mvO (q.hop + 1) ((b : Int) + 1)).node = s.node := by show ¬ ((b : Int) + 1 = s.node); rw [h.node]; omega
  have e3 : above s [(mvO (q.hop + 1) ((b : Int) + 1)).node] = false := by
    show List.any [(b : Int) + 1] (fun m => decide (s.nodes < m)) = false
    simp [h.nodes]
    omega
  have e4 : owns s (mvO (q.hop + 1) ((b : Int) + 1)).cell = true := by show owns s 0 = true; rw [h.owns, hq]; rfl
  have e5 : locked s (mvO (q.hop + 1) ((b : Int) + 1)).cell = false := h.free
  have e6 : plAt s (mvO (q.hop + 1) ((b : Int) + 1)).cell = q := h.at0
  rw [e1, if_neg (by decide), if_neg e2, e3, if_neg (by decide), e4, if_neg (by decide), e5, if_neg (by decide), e6, IntWalk.i64_in _ (by omega), if_neg (by show ¬ (q.hop + 1 ≠ q.hop + 1); omega)]
  rfl
/-- It comes. -/
theorem mv_in {n i K : Nat} {s : St} {q : Pl} (h : Nd n i K s q) (hq : q.status ≠ 1) {hop ver val : Int} (h1 : 1 ≤ hop ∧ hop ≤ 1000) (h2 : 0 ≤ ver ∧ ver ≤ 1000) (h3 : -1000 ≤ val ∧ val ≤ 1000) (hh : q.hop < hop) :
    fFollow s (mvN hop ver val) = (setPl s 0 ⟨1, hop, 0, ver, val⟩, 0) := by
  rw [follow_kind (mvN_right h1 h2 h3)]
  have e : byKind s (mvN hop ver val) = fIn s (mvN hop ver val) := by unfold byKind; rfl
  rw [e]
  unfold fIn
  have e1 : hasC s (mvN hop ver val).cell = true := h.has
  have e4 : owns s (mvN hop ver val).cell = false := by show owns s 0 = false; rw [h.owns]; exact decide_eq_false hq
  have e6 : plAt s (mvN hop ver val).cell = q := h.at0
  rw [e1, if_neg (by decide), e4, if_neg (by decide), e6, if_neg (by show ¬ (hop ≤ q.hop); omega)]
  rfl
theorem mv_in2 {n i K : Nat} {s : St} {q : Pl} (h : Nd n i K s q) (hq : q.status = 1) {hop ver val : Int} (h1 : 1 ≤ hop ∧ hop ≤ 1000) (h2 : 0 ≤ ver ∧ ver ≤ 1000) (h3 : -1000 ≤ val ∧ val ≤ 1000) : (fFollow s (mvN hop ver val)).2 ≠ 0 := by
  rw [follow_kind (mvN_right h1 h2 h3)]
  have e : byKind s (mvN hop ver val) = fIn s (mvN hop ver val) := by unfold byKind; rfl
  rw [e]
  unfold fIn
  have e1 : hasC s (mvN hop ver val).cell = true := h.has
  have e4 : owns s (mvN hop ver val).cell = true := by show owns s 0 = true; rw [h.owns, hq]; rfl
  rw [e1, if_neg (by decide), e4, if_pos rfl]
  simp
/-- It is gone. -/
theorem mv_gone {n i K : Nat} {s : St} {q : Pl} (h : Nd n i K s q) (hq : q.status = 2) (h1 : 1 ≤ q.hop ∧ q.hop ≤ 1000) : fFollow s (mvG q.hop) = (setPl s 0 ⟨0, q.hop, 0, 0, 0⟩, 0) := by
  rw [follow_kind (mvG_right h1)]
  have e : byKind s (mvG q.hop) = fGone s (mvG q.hop) := by unfold byKind; rfl
  rw [e]
  unfold fGone
  have e1 : hasC s (mvG q.hop).cell = true := h.has
  have e6 : plAt s (mvG q.hop).cell = q := h.at0
  rw [e1, if_neg (by decide), e6, if_neg (by rw [hq]; decide), if_neg (by show ¬ (q.hop ≠ q.hop); omega)]
  rfl
theorem mv_gone2 {n i K : Nat} {s : St} {q : Pl} (h : Nd n i K s q) (hq : q.status = 0) {hop : Int} (h1 : 1 ≤ hop ∧ hop ≤ 1000) : (fFollow s (mvG hop)).2 ≠ 0 := by
  rw [follow_kind (mvG_right h1)]
  have e : byKind s (mvG hop) = fGone s (mvG hop) := by unfold byKind; rfl
  rw [e]
  unfold fGone
  have e1 : hasC s (mvG hop).cell = true := h.has
  have e6 : plAt s (mvG hop).cell = q := h.at0
  rw [e1, if_neg (by decide), e6, if_pos (by rw [hq]; decide)]
  simp

theorem apply_err (s : St) (r : Rc) : (applyL s [r]).2 = (fFollow s r).2 := by
  rw [apply_one]
  split
  · rename_i h; exact h.symm
  · rfl
theorem apply_ok {s : St} {r : Rc} (h : (fFollow s r).2 = 0) : (applyL s [r]).1 = goOn s r := by
  unfold goOn
  rw [apply_one, if_pos h, if_pos h]
/-- States that lie in a row of the call's own, and the variable that has them. -/
structure Sts (w : World) (b6 g c : Nat) (S : Nat → Prop) (L : List St) (ys : List Sy) : Prop where
  var : Cells w b6 60 [.slice (some ⟨g, 0, none⟩) L.length c]
  row : Cells w g 32 (List.zipWith St.vals L ys).flatten
  len : ys.length = L.length
  see : ∀ i (h : i < L.length) (h' : i < ys.length), ∀ w', Only S w w' → Sees w' L[i] ys[i]
  ne : b6 ≠ g
  has : S b6 ∧ S g
theorem Sts.later {w w' : World} {b6 g c : Nat} {S S' : Nat → Prop} {L : List St} {ys : List Sy} (h : Sts w b6 g c S L ys) (hb : Below w.heap.size w w') (hs : ∀ k, k < w.heap.size → S' k → S k) (hin : S' b6 ∧ S' g) : Sts w' b6 g c S' L ys :=
  ⟨h.var.later hb, h.row.later hb, h.len, fun i h1 h2 w2 h3 => h.see i h1 h2 w2 ((Only.of_below hb).trans h3 fun k hk e => hs k hk e), h.ne, hin⟩
theorem vals_one (s : St) (y : Sy) : ∀ u ∈ s.vals y, u.oneCell' = true := fun u hu => by
  unfold St.vals at hu
  simp only [List.mem_cons, List.not_mem_nil, or_false] at hu
  rcases hu with rfl | rfl | rfl | rfl | rfl | rfl | rfl | rfl <;> rfl
theorem fit_states (L : List St) (ys : List Sy) : Fit 8 (List.zipWith St.vals L ys) := ⟨fun v hv => by obtain ⟨p, y, rfl⟩ := mem_zip hv; rfl, fun v hv => by obtain ⟨p, y, rfl⟩ := mem_zip hv; exact vals_one p y⟩
theorem Sts.at_ {w : World} {b6 g c : Nat} {S : Nat → Prop} {L : List St} {ys : List Sy} (h : Sts w b6 g c S L ys) {i : Nat} (hi : i < L.length) (hy : i < ys.length) : w.rangeAt g (i * 8) (L[i].vals ys[i]) := fun j v hv => by
  have hj : j < 8 := (List.getElem?_eq_some_iff.1 hv).1
  have hz : i < (List.zipWith St.vals L ys).length := by rw [List.length_zipWith]; omega
  refine h.row.cell ?_
  rw [flatten_at (sz := 8) (fit_states L ys).len i hz j hj, List.getElem_zipWith]
  exact hv
/-- A state takes another's place in the row. -/
theorem Sts.put {w w' : World} {b6 g c : Nat} {S : Nat → Prop} {L : List St} {ys : List Sy} (h : Sts w b6 g c S L ys) {i : Nat} (hi : i < L.length) {t : St} {z : Sy} (hw : w' = w.setCells g (i * 8) (t.vals z)) (hs : ∀ w2, Only S w w2 → Sees w2 t z) :
    Sts w' b6 g c S (L.set i t) (ys.set i z) ∧ Only (fun k => k = g) w w' := by
  have hl := h.len
  have hz : i < (List.zipWith St.vals L ys).length := by rw [List.length_zipWith]; omega
  have hfl := flatten_len (vs := List.zipWith St.vals L ys) (sz := 8) (fit_states L ys).len
  rw [List.length_zipWith] at hfl
  have hle : i * 8 + (t.vals z).length ≤ (List.zipWith St.vals L ys).flatten.length := by
    rw [hfl, show (t.vals z).length = 8 from rfl]
    omega
  obtain ⟨p1, p2⟩ := h.row.put_at (t.vals z) (i * 8) hle
  rw [← hw] at p1 p2
  refine ⟨⟨?_, ?_, by rw [List.length_set, List.length_set]; exact hl, fun j h1 h2 w2 h3 => ?_, h.ne, h.has⟩, p2⟩
  · rw [List.length_set]
    exact cells_only h.var p2 h.ne
  · have e : over (List.zipWith St.vals L ys).flatten (i * 8) (t.vals z) = (List.zipWith St.vals (L.set i t) (ys.set i z)).flatten := by
      rw [over_at (sz := 8) (fit_states L ys).len rfl hz]
      congr 1
      apply List.ext_getElem?
      intro j
      rw [List.getElem?_set, List.getElem?_zipWith, List.getElem?_zipWith, List.getElem?_set, List.getElem?_set]
      by_cases e : i = j
      · subst e
        rw [if_pos rfl, if_pos hz, if_pos rfl, if_pos hi, if_pos rfl, if_pos (by omega)]
      · rw [if_neg e, if_neg e, if_neg e]
    rw [← e]
    unfold over
    rw [List.append_assoc]
    exact p1
  · have h3' : Only S w w2 := (p2.mono fun k _ e => by rw [e]; exact h.has.2).trans h3 fun k _ e => e
    rw [List.length_set] at h1 h2
    rw [List.getElem_set, List.getElem_set]
    by_cases e : i = j
    · subst e
      rw [if_pos rfl, if_pos rfl]
      exact hs w2 h3'
    · rw [if_neg e, if_neg e]
      exact h.see j h1 h2 w2 h3'
/-- Where the closure's statement stands, in whatever order. -/
structure DoSt (wb : World) (t : St) (e : Int) (r : Rc) (lay : Lay) (d5 d6 d7 d8 d9 d10 d11 d12 : Bool) (v5 v6 v7 v8 v9 v10 v12 : Value) (w : World) : Prop where
  low : Below wb.heap.size wb w
  sl : d5 = true → d6 = false → ∃ g5, v5 = .slice (some ⟨g5, 0, none⟩) 1 1 ∧ Cells w g5 41 (r.vals lay)
  al : d10 = true → ∃ k, v10 = .pointer (some ⟨k, 0, none⟩) ∧ wb.heap.size ≤ k ∧ k < w.heap.size ∧ (d11 = false → Cells w k 32 [.int .i64 0, .int .i64 0, .int .i64 0, .int .i64 0, .slice none 0 0, .slice none 0 0, .slice none 0 0, .slice none 0 0])
  ap : d6 = true → ∃ z, (v6 = .tuple #[t.val z, .int .i64 e] ∧ (d7 = true → v7 = .tuple #[t.val z, .int .i64 e]) ∧ (d8 = true → v8 = t.val z) ∧ (d9 = true → v9 = .int .i64 e) ∧ (d12 = true → v12 = .int .i64 e)) ∧
    (∀ w', Only (fun k => k < wb.heap.size ∨ (d10 = true ∧ v10 = .pointer (some ⟨k, 0, none⟩))) w w' → Sees w' t z) ∧ (d11 = true → ∃ k, v10 = .pointer (some ⟨k, 0, none⟩) ∧ Cells w k 32 (t.vals z))
section
variable {wb w : World} {t : St} {e : Int} {r : Rc} {lay : Lay} {d5 d6 d7 d8 d9 d10 d11 d12 : Bool} {v5 v6 v7 v8 v9 v10 v12 : Value}
theorem DoSt.start {w' : World} (h : Below wb.heap.size wb w') : DoSt wb t e r lay false false false false false false false false v5 v6 v7 v8 v9 v10 v12 w' := ⟨h, fun e => (by cases e), fun e => (by cases e), fun e => (by cases e)⟩
theorem DoSt.later {w' : World} (h : DoSt wb t e r lay d5 d6 d7 d8 d9 d10 d11 d12 v5 v6 v7 v8 v9 v10 v12 w) (hb : Below w.heap.size w w') : DoSt wb t e r lay d5 d6 d7 d8 d9 d10 d11 d12 v5 v6 v7 v8 v9 v10 v12 w' := by
  refine ⟨h.low.trans (hb.mono h.low.size), fun e5 en => ?_, fun e10 => ?_, fun e6 => ?_⟩
  · obtain ⟨g, x1, x2⟩ := h.sl e5 en
    exact ⟨g, x1, x2.later hb⟩
  · obtain ⟨k, x1, x2, x3, x4⟩ := h.al e10
    exact ⟨k, x1, x2, Nat.lt_of_lt_of_le x3 hb.size, fun e11 => (x4 e11).later hb⟩
  · obtain ⟨z, x1, x2, x3⟩ := h.ap e6
    refine ⟨z, x1, fun w2 h2 => x2 w2 ((Only.of_below hb).trans h2 fun _ _ e => e), fun e11 => ?_⟩
    obtain ⟨k, y1, y2⟩ := x3 e11
    exact ⟨k, y1, y2.later hb⟩
theorem DoSt.build (h : DoSt wb t e r lay false d6 d7 d8 d9 d10 d11 d12 v5 v6 v7 v8 v9 v10 v12 w) : DoSt wb t e r lay true d6 d7 d8 d9 d10 d11 d12 (.slice (some ⟨w.heap.size, 0, none⟩) 1 1) v6 v7 v8 v9 v10 v12 (w.alloc (.cells #[.int .i64 r.kind, .int .i64 r.tid.node, .int .i64 r.tid.epoch, .int .i64 r.tid.seq, .slice lay.A r.items.length lay.c, .slice lay.B r.nodes.length lay.d, .int .i64 r.node, .int .i64 r.count, .int .i64 r.num, .int .i64 r.cell, .int .i64 r.status, .int .i64 r.hop, .int .i64 r.version, .int .i64 r.value, .bool r.yes] 41)) := by
  have x := h.later (below_alloc w (.cells #[.int .i64 r.kind, .int .i64 r.tid.node, .int .i64 r.tid.epoch, .int .i64 r.tid.seq, .slice lay.A r.items.length lay.c, .slice lay.B r.nodes.length lay.d, .int .i64 r.node, .int .i64 r.count, .int .i64 r.num, .int .i64 r.cell, .int .i64 r.status, .int .i64 r.hop, .int .i64 r.version, .int .i64 r.value, .bool r.yes] 41))
  exact ⟨x.low, fun _ _ => ⟨_, rfl, cells_new _ _ _ _ rfl⟩, x.al, x.ap⟩
theorem DoSt.alloc (h : DoSt wb t e r lay d5 d6 d7 d8 d9 false false d12 v5 v6 v7 v8 v9 v10 v12 w) : DoSt wb t e r lay d5 d6 d7 d8 d9 true false d12 v5 v6 v7 v8 v9 (.pointer (some ⟨w.heap.size, 0, none⟩)) v12 (w.alloc (.cells #[.int .i64 0, .int .i64 0, .int .i64 0, .int .i64 0, .slice none 0 0, .slice none 0 0, .slice none 0 0, .slice none 0 0] 32)) := by
  have hb := below_alloc w (.cells #[.int .i64 0, .int .i64 0, .int .i64 0, .int .i64 0, .slice none 0 0, .slice none 0 0, .slice none 0 0, .slice none 0 0] 32)
  have x := h.later hb
  refine ⟨x.low, x.sl, fun _ => ⟨_, rfl, h.low.size, by rw [World.size_alloc]; exact Nat.lt_succ_self _, fun _ => cells_new _ _ _ _ rfl⟩, fun e6 => ?_⟩
  obtain ⟨z, x1, x2, _⟩ := h.ap e6
  refine ⟨z, x1, fun w2 h2 => x2 w2 ((Only.of_below hb).trans h2 fun k hk e => ?_), fun e => (by cases e)⟩
  rcases e with e | ⟨_, e⟩
  · exact Or.inl e
  · simp only [Value.pointer.injEq, Option.some.injEq, Addr.mk.injEq] at e
    omega
theorem DoSt.call {w' : World} {z : Sy} (h : DoSt wb t e r lay d5 false false false false d10 false false v5 v6 v7 v8 v9 v10 v12 w) (hb : Below w.heap.size w w') (hs : Stays w.heap.size w' t z) : DoSt wb t e r lay d5 true false false false d10 false false v5 (.tuple #[t.val z, .int .i64 e]) v7 v8 v9 v10 v12 w' := by
  have x := h.later hb
  refine ⟨x.low, fun _ e => (by cases e), x.al, fun _ => ⟨z, ⟨rfl, fun e => (by cases e), fun e => (by cases e), fun e => (by cases e), fun e => (by cases e)⟩, fun w2 h2 => hs w2 (h2.mono fun k _ e => ?_), fun e => (by cases e)⟩⟩
  rcases e with e | ⟨e1, e2⟩
  · exact Nat.lt_of_lt_of_le e h.low.size
  · obtain ⟨k2, y1, _, y3, _⟩ := h.al e1
    rw [y1] at e2
    simp only [Value.pointer.injEq, Option.some.injEq, Addr.mk.injEq] at e2
    omega
theorem DoSt.m7 (h : DoSt wb t e r lay d5 true false d8 d9 d10 d11 d12 v5 v6 v7 v8 v9 v10 v12 w) : DoSt wb t e r lay d5 true true d8 d9 d10 d11 d12 v5 v6 v6 v8 v9 v10 v12 w := by
  refine ⟨h.low, h.sl, h.al, fun e6 => ?_⟩
  obtain ⟨z, ⟨x1, _, x3⟩, y⟩ := h.ap e6
  exact ⟨z, ⟨x1, fun _ => x1, x3⟩, y⟩
theorem DoSt.m8 (h : DoSt wb t e r lay d5 true true false d9 d10 d11 d12 v5 v6 v7 v8 v9 v10 v12 w) : ∃ z, v7 = .tuple #[t.val z, .int .i64 e] ∧ DoSt wb t e r lay d5 true true true d9 d10 d11 d12 v5 v6 v7 (t.val z) v9 v10 v12 w := by
  obtain ⟨z, ⟨x1, x2, _, x4⟩, y⟩ := h.ap rfl
  exact ⟨z, x2 rfl, h.low, h.sl, h.al, fun _ => ⟨z, ⟨x1, x2, fun _ => rfl, x4⟩, y⟩⟩
theorem DoSt.m9 (h : DoSt wb t e r lay d5 true true d8 false d10 d11 d12 v5 v6 v7 v8 v9 v10 v12 w) : ∃ z, v7 = .tuple #[t.val z, .int .i64 e] ∧ DoSt wb t e r lay d5 true true d8 true d10 d11 d12 v5 v6 v7 v8 (.int .i64 e) v10 v12 w := by
  obtain ⟨z, ⟨x1, x2, x3, _, x5⟩, y⟩ := h.ap rfl
  exact ⟨z, x2 rfl, h.low, h.sl, h.al, fun _ => ⟨z, ⟨x1, x2, x3, fun _ => rfl, x5⟩, y⟩⟩
theorem DoSt.m12 (h : DoSt wb t e r lay d5 true d7 d8 true d10 d11 false v5 v6 v7 v8 v9 v10 v12 w) : v9 = .int .i64 e ∧ DoSt wb t e r lay d5 true d7 d8 true d10 d11 true v5 v6 v7 v8 v9 v10 (.int .i64 e) w := by
  obtain ⟨z, ⟨x1, x2, x3, x4, _⟩, y⟩ := h.ap rfl
  exact ⟨x4 rfl, h.low, h.sl, h.al, fun _ => ⟨z, ⟨x1, x2, x3, x4, fun _ => rfl⟩, y⟩⟩
theorem DoSt.put (h : DoSt wb t e r lay d5 true d7 true d9 true false d12 v5 v6 v7 v8 v9 v10 v12 w) : ∃ k z, v10 = .pointer (some ⟨k, 0, none⟩) ∧ v8 = t.val z ∧ w.there k 0 8 ∧ DoSt wb t e r lay d5 true d7 true d9 true true d12 v5 v6 v7 v8 v9 v10 v12 (w.setCells k 0 (t.vals z)) := by
  obtain ⟨k, x1, x2, x3, x4⟩ := h.al rfl
  obtain ⟨z, ⟨y1, y2, y3, y4, y5⟩, ys, _⟩ := h.ap rfl
  have hc := x4 rfl
  obtain ⟨p1, p2⟩ := hc.put (l := t.vals z) rfl
  refine ⟨k, z, x1, y3 rfl, hc.there (by simp), h.low.trans (p2.below h.low.size fun j e => by rw [e]; exact x2), fun _ e => (by cases e), fun _ => ⟨k, x1, x2, Nat.lt_of_lt_of_le x3 p2.size, fun e => (by cases e)⟩, fun _ => ⟨z, ⟨y1, y2, y3, y4, y5⟩, fun w2 h2 => ys w2 ((p2.mono fun j _ e => Or.inr ⟨rfl, by rw [e]; exact x1⟩).trans h2 fun _ _ e => e), fun _ => ⟨k, x1, p1⟩⟩⟩
end

theorem Sts.there {w : World} {b6 g c : Nat} {S : Nat → Prop} {L : List St} {ys : List Sy} (h : Sts w b6 g c S L ys) {ii : Nat} (hi : ii < L.length) : w.there g (ii * 8) 8 := fun j hj => by
  have hfl := flatten_len (vs := List.zipWith St.vals L ys) (sz := 8) (fit_states L ys).len
  rw [List.length_zipWith, h.len, Nat.min_self] at hfl
  have hlt : ii * 8 + j < (List.zipWith St.vals L ys).flatten.length := by omega
  exact ⟨by rw [h.row.cell (List.getElem?_eq_getElem hlt)]; rfl, h.row.frozen hlt⟩
set_option maxHeartbeats 2000000 in
theorem do_any {b6 g c : Nat} {S : Nat → Prop} {L : List St} {ys : List Sy} (ii : Nat) (hi : ii < L.length) (r : Rc) (lay : Lay) (m : Nat) (w : World) (h : Sts w b6 g c S L ys) (hS : ∀ k, S k → k < w.heap.size) (ht : Two w r.items r.nodes lay) (hz : Sz m L[ii]) (hm : m ≤ 1000) (hr : r.items.length ≤ 1000 ∧ r.nodes.length ≤ 1000) :
    Calls Try.prog 15 #[.int .i64 (ii : Int), r.val lay, .pointer (some ⟨b6, 0, none⟩)] w fun e w' => e = .returned (.bool (decide ((fFollow L[ii] r).2 = 0))) ∧ (∃ ys', Sts w' b6 g c S (L.set ii (goOn L[ii] r)) ys') ∧ Only (fun k => k = g) w w' := by
  have hy : ii < ys.length := by rw [h.len]; exact hi
  obtain ⟨wb, hwb⟩ : ∃ v, v = w.alloc (.cells #[.int .i64 r.kind, .int .i64 r.tid.node, .int .i64 r.tid.epoch, .int .i64 r.tid.seq, .slice lay.A r.items.length lay.c, .slice lay.B r.nodes.length lay.d, .int .i64 r.node, .int .i64 r.count, .int .i64 r.num, .int .i64 r.cell, .int .i64 r.status, .int .i64 r.hop, .int .i64 r.version, .int .i64 r.value, .bool r.yes] 41) := ⟨_, rfl⟩
  have hb : Below w.heap.size w wb := by rw [hwb]; exact below_alloc _ _
  have hsz : wb.heap.size = w.heap.size + 1 := by rw [hwb, World.size_alloc]
  have HREC : Hid (Cells wb w.heap.size 41 (r.vals lay)) := Lib.hid (by rw [hwb]; exact cells_new _ _ _ _ rfl)
  have hsw : Sts wb b6 g c S L ys := h.later hb (fun k _ e => e) h.has
  have HSW := Lib.hid hsw
  have HROW := Lib.hid (hsw.at_ hi hy)
  have hvar := hsw.var.cell (j := 0) rfl
  have herr := apply_err L[ii] r
  have hok := fun (e : (fFollow L[ii] r).2 = 0) => apply_ok e
  have hno := fun (e : ¬ (fFollow L[ii] r).2 = 0) => (show L.set ii (goOn L[ii] r) = L by unfold goOn; rw [if_neg e]; exact List.set_getElem_self hi)
  have hAP := fun (w2 : World) (g5 : Nat) (h2 : Below wb.heap.size wb w2) (h3 : Cells w2 g5 41 (r.vals lay)) => Apply_any L[ii] ys[ii] [r] [lay] (some ⟨g5, 0, none⟩) 1 m w2 ((hsw.later h2 (S' := S) (fun k _ e => e) h.has).see ii hi hy w2 (Only.refl _ _)) hz
    ⟨cells_sl (sz := 15) (by simpa using h3) (fun v hv => by rw [List.mem_singleton.1 hv]; rfl), rfl, fun j h1 h4 => by
      have : j = 0 := by simp at h1; omega
      subst this
      exact (ht.later hb).later h2⟩ (fun x hx => by rw [List.mem_singleton.1 hx]; exact hr) (by simp only [List.length_singleton]; omega)
  obtain ⟨s, hs⟩ : ∃ s, L[ii] = s := ⟨_, rfl⟩
  obtain ⟨y, hyy⟩ : ∃ s, ys[ii] = s := ⟨_, rfl⟩
  obtain ⟨t, htt⟩ : ∃ t, (applyL L[ii] [r]).1 = t := ⟨_, rfl⟩
  obtain ⟨e, hee⟩ : ∃ t, (applyL L[ii] [r]).2 = t := ⟨_, rfl⟩
  rw [htt, hee] at hAP
  rw [htt] at hok
  rw [hee] at herr
  rw [← herr] at hok hno
  rw [← herr]
  rw [hs, hyy] at HROW hAP
  rw [hs] at hok hno ⊢
  have HOK := Lib.hid hok
  have HNO := Lib.hid hno
  have hSb : ∀ k, S k → k < w.heap.size := hS
  have HS := Lib.hid hSb
  have HI := Lib.hid hi
  have HAP : Hid (∀ (w2 : World) (g5 : Nat), Below wb.heap.size wb w2 → Cells w2 g5 41 (r.vals lay) → Calls Try.prog 9 #[.agg #[.int .i64 s.node, .int .i64 s.nodes, .int .i64 s.cells, .int .i64 s.epoch, .slice y.P s.places.length y.p, .slice y.Q s.prep.length y.q, .slice y.D s.dec.length y.d, .slice y.C s.com.length y.c], .slice (some ⟨g5, 0, none⟩) 1 1] w2 fun e2 w' => (∃ y', e2 = .returned (.tuple #[t.val y', .int .i64 e]) ∧ Stays w2.heap.size w' t y') ∧ Below w2.heap.size w2 w') := Lib.hid hAP
  obtain ⟨n, hnn⟩ : ∃ n, L.length = n := ⟨_, rfl⟩
  rw [hnn] at hvar hi
  have HVAR := Lib.hid hvar
  have HIN := Lib.hid hi
  have HNN := Lib.hid hnn
  have HWB := Lib.hid hb
  have HSZ := Lib.hid hsz
  clear hsw hvar herr hok hno hAP h hS ht hz hr hs hyy htt hee hSb hb hsz hnn hy
  have hib := hi
  unfold Rc.val
  go_enter Try.func15, Try.ntmps15
  go_wp2_with fail
  rw [← hwb]
  clear hwb
  refine Reg.region_inv (by kernel_rfl) (fun i => ([some (.slice (some ⟨g, 0, none⟩) n c), some (.int .i64 (ii : Int)), some (.pointer (some ⟨g, ii * 8, none⟩)), some (.agg #[.int .i64 s.node, .int .i64 s.nodes, .int .i64 s.cells, .int .i64 s.epoch, .slice y.P s.places.length y.p, .slice y.Q s.prep.length y.q, .slice y.D s.dec.length y.d, .slice y.C s.com.length y.c]), some (.agg #[.int .i64 r.kind, .int .i64 r.tid.node, .int .i64 r.tid.epoch, .int .i64 r.tid.seq, .slice lay.A r.items.length lay.c, .slice lay.B r.nodes.length lay.d, .int .i64 r.node, .int .i64 r.count, .int .i64 r.num, .int .i64 r.cell, .int .i64 r.status, .int .i64 r.hop, .int .i64 r.version, .int .i64 r.value, .bool r.yes]), none, none, none, none, none, none, none, none] : List (Option Value)).getD i none) (fun D V W => DoSt wb t e r lay (D 5) (D 6) (D 7) (D 8) (D 9) (D 10) (D 11) (D 12) (V 5) (V 6) (V 7) (V 8) (V 9) (V 10) (V 12) W) (fun V => [(some 9, V 0), (some 10, V 1), (some 11, V 2), (some 12, V 3), (some 13, V 4), (some 14, V 5), (some 15, V 6), (some 8, V 7), (some 16, V 8), (some 17, V 9), (some 6, V 10), (none, V 11), (some 7, V 12)]) (by kernel_rfl) (by kernel_rfl) (fun V => rfl) ?_ ?_ ?_
  · intro V
    exact DoSt.start (Below.refl _ _).drew
  · intro i o ho
    have hi : i < 13 := (Array.getElem?_eq_some_iff.1 ho).1
    rcases i with _ | _ | _ | _ | _ | _ | _ | _ | _ | _ | _ | _ | _ | i
    · obtain rfl := Option.some.inj ho
      intro D V ρ wi hE hI hDi hT hF hs hd hk
      have e2 : ρ (.tmp 2) = .pointer (some ⟨b6, 0, none⟩) := hs 2 (by kernel_rfl)
      clear hT hF hk
      have hx := lowc hI.low HVAR.out
      exact Reg.Gives.value (v := .slice (some ⟨g, 0, none⟩) n c) (w' := wi) (by go_simp) ⟨fun x h => Option.some.inj h, hI⟩
    · obtain rfl := Option.some.inj ho
      intro D V ρ wi hE hI hDi hT hF hs hd hk
      have e0 : ρ (.tmp 0) = .int .i64 (ii : Int) := hs 0 (by kernel_rfl)
      clear hT hF hk
      exact Reg.Gives.value (v := .int .i64 (ii : Int)) (w' := wi) (by go_simp) ⟨fun x h => Option.some.inj h, hI⟩
    · obtain rfl := Option.some.inj ho
      intro D V ρ wi hE hI hDi hT hF hs hd hk
      have e9 : ρ (.tmp 9) = .slice (some ⟨g, 0, none⟩) n c := (hd 0 9 (by kernel_rfl) (by kernel_rfl) (by show _ < 26; decide)).trans (hk 0 (by kernel_rfl) _ rfl)
      have e10 : ρ (.tmp 10) = .int .i64 (ii : Int) := (hd 1 10 (by kernel_rfl) (by kernel_rfl) (by show _ < 26; decide)).trans (hk 1 (by kernel_rfl) _ rfl)
      clear hT hF hk
      have hx := HIN.out
      exact Reg.Gives.value (v := .pointer (some ⟨g, ii * 8, none⟩)) (w' := wi) (by go_simp) ⟨fun x h => Option.some.inj h, hI⟩
    · obtain rfl := Option.some.inj ho
      intro D V ρ wi hE hI hDi hT hF hs hd hk
      have e11 : ρ (.tmp 11) = .pointer (some ⟨g, ii * 8, none⟩) := (hd 2 11 (by kernel_rfl) (by kernel_rfl) (by show _ < 26; decide)).trans (hk 2 (by kernel_rfl) _ rfl)
      have hD6 : D 6 = false := hF 1 6 (by show _ < 13; decide) (by kernel_rfl)
      have hD7 : D 7 = false := hF 2 7 (by show _ < 13; decide) (by kernel_rfl)
      have hD8 : D 8 = false := hF 3 8 (by show _ < 13; decide) (by kernel_rfl)
      have hD9 : D 9 = false := hF 3 9 (by show _ < 13; decide) (by kernel_rfl)
      have hD11 : D 11 = false := hF 1 11 (by show _ < 13; decide) (by kernel_rfl)
      have hD12 : D 12 = false := hF 1 12 (by show _ < 13; decide) (by kernel_rfl)
      clear hT hF
      exact Reg.Gives.value (v := .agg #[.int .i64 s.node, .int .i64 s.nodes, .int .i64 s.cells, .int .i64 s.epoch, .slice y.P s.places.length y.p, .slice y.Q s.prep.length y.q, .slice y.D s.dec.length y.d, .slice y.C s.com.length y.c]) (w' := wi) (exec_load _ _ rfl g (ii * 8) e11 (run_loadVar_mid wi g (ii * 8) 32 (s.vals y) _ (range_later HROW.out hI.low) Try.underlying32 rfl (by kernel_rfl))) ⟨fun x h => Option.some.inj h, hI⟩
    · obtain rfl := Option.some.inj ho
      intro D V ρ wi hE hI hDi hT hF hs hd hk
      have e4 : ρ (.tmp 4) = .pointer (some ⟨w.heap.size, 0, none⟩) := hs 4 (by kernel_rfl)
      have hD5 : D 5 = false := hF 1 5 (by show _ < 13; decide) (by kernel_rfl)
      have hD6 : D 6 = false := hF 2 6 (by show _ < 13; decide) (by kernel_rfl)
      have hD7 : D 7 = false := hF 3 7 (by show _ < 13; decide) (by kernel_rfl)
      have hD8 : D 8 = false := hF 4 8 (by show _ < 13; decide) (by kernel_rfl)
      have hD9 : D 9 = false := hF 4 9 (by show _ < 13; decide) (by kernel_rfl)
      have hD11 : D 11 = false := hF 1 11 (by show _ < 13; decide) (by kernel_rfl)
      have hD12 : D 12 = false := hF 1 12 (by show _ < 13; decide) (by kernel_rfl)
      clear hT hF
      exact Reg.Gives.value (v := .agg #[.int .i64 r.kind, .int .i64 r.tid.node, .int .i64 r.tid.epoch, .int .i64 r.tid.seq, .slice lay.A r.items.length lay.c, .slice lay.B r.nodes.length lay.d, .int .i64 r.node, .int .i64 r.count, .int .i64 r.num, .int .i64 r.cell, .int .i64 r.status, .int .i64 r.hop, .int .i64 r.version, .int .i64 r.value, .bool r.yes]) (w' := wi) (exec_load _ _ rfl w.heap.size 0 e4 ((HREC.out.later hI.low).load 41 _ Try.underlying41 rfl (by kernel_rfl))) ⟨fun x h => Option.some.inj h, hI⟩
    · obtain rfl := Option.some.inj ho
      intro D V ρ wi hE hI hDi hT hF hs hd hk
      have e13 : ρ (.tmp 13) = .agg #[.int .i64 r.kind, .int .i64 r.tid.node, .int .i64 r.tid.epoch, .int .i64 r.tid.seq, .slice lay.A r.items.length lay.c, .slice lay.B r.nodes.length lay.d, .int .i64 r.node, .int .i64 r.count, .int .i64 r.num, .int .i64 r.cell, .int .i64 r.status, .int .i64 r.hop, .int .i64 r.version, .int .i64 r.value, .bool r.yes] := (hd 4 13 (by kernel_rfl) (by kernel_rfl) (by show _ < 26; decide)).trans (hk 4 (by kernel_rfl) _ rfl)
      have hD5 : D 5 = false := hDi
      have hD6 : D 6 = false := hF 1 6 (by show _ < 13; decide) (by kernel_rfl)
      have hD7 : D 7 = false := hF 2 7 (by show _ < 13; decide) (by kernel_rfl)
      have hD8 : D 8 = false := hF 3 8 (by show _ < 13; decide) (by kernel_rfl)
      have hD9 : D 9 = false := hF 3 9 (by show _ < 13; decide) (by kernel_rfl)
      have hD11 : D 11 = false := hF 1 11 (by show _ < 13; decide) (by kernel_rfl)
      have hD12 : D 12 = false := hF 1 12 (by show _ < 13; decide) (by kernel_rfl)
      clear hT hF
      rw [hD5] at hI
      exact Reg.Gives.value (v := .slice (some ⟨wi.heap.size, 0, none⟩) 1 1) (w' := wi.alloc (.cells #[.int .i64 r.kind, .int .i64 r.tid.node, .int .i64 r.tid.epoch, .int .i64 r.tid.seq, .slice lay.A r.items.length lay.c, .slice lay.B r.nodes.length lay.d, .int .i64 r.node, .int .i64 r.count, .int .i64 r.num, .int .i64 r.cell, .int .i64 r.status, .int .i64 r.hop, .int .i64 r.version, .int .i64 r.value, .bool r.yes] 41)) (by go_simp) ⟨fun x h => (by cases h), by show DoSt wb t e r lay true (D 6) (D 7) (D 8) (D 9) (D 10) (D 11) (D 12) (.slice (some ⟨wi.heap.size, 0, none⟩) 1 1) (V 6) (V 7) (V 8) (V 9) (V 10) (V 12) _; exact hI.build⟩
    · obtain rfl := Option.some.inj ho
      intro D V ρ wi hE hI hDi hT hF hs hd hk
      have e12 : ρ (.tmp 12) = .agg #[.int .i64 s.node, .int .i64 s.nodes, .int .i64 s.cells, .int .i64 s.epoch, .slice y.P s.places.length y.p, .slice y.Q s.prep.length y.q, .slice y.D s.dec.length y.d, .slice y.C s.com.length y.c] := (hd 3 12 (by kernel_rfl) (by kernel_rfl) (by show _ < 26; decide)).trans (hk 3 (by kernel_rfl) _ rfl)
      have e14 : ρ (.tmp 14) = V 5 := hd 5 14 (by kernel_rfl) (by kernel_rfl) (by show _ < 26; decide)
      have hf := hE.func
      have hD5 : D 5 = true := hT 1 5 (by kernel_rfl)
      have hD6 : D 6 = false := hDi
      have hD7 : D 7 = false := hF 1 7 (by show _ < 13; decide) (by kernel_rfl)
      have hD8 : D 8 = false := hF 2 8 (by show _ < 13; decide) (by kernel_rfl)
      have hD9 : D 9 = false := hF 2 9 (by show _ < 13; decide) (by kernel_rfl)
      have hD11 : D 11 = false := hF 1 11 (by show _ < 13; decide) (by kernel_rfl)
      have hD12 : D 12 = false := hF 1 12 (by show _ < 13; decide) (by kernel_rfl)
      clear hT hF
      rw [hD5, hD6, hD7, hD8, hD9, hD11, hD12] at hI
      obtain ⟨g5, f1, f2⟩ := hI.sl rfl rfl
      have e14b := e14.trans f1
      clear e14
      refine Reg.Gives.call (f := 9) (args := #[.agg #[.int .i64 s.node, .int .i64 s.nodes, .int .i64 s.cells, .int .i64 s.epoch, .slice y.P s.places.length y.p, .slice y.Q s.prep.length y.q, .slice y.D s.dec.length y.d, .slice y.C s.com.length y.c], .slice (some ⟨g5, 0, none⟩) 1 1]) (w' := wi) (by go_simp) ?_
      refine (HAP.out wi g5 hI.low f2).mono ?_
      rintro e2 w'' ⟨⟨z, rfl, hst⟩, hb⟩
      refine ⟨_, rfl, fun x h => (by cases h), ?_⟩
      show DoSt wb t e r lay (D 5) true (D 7) (D 8) (D 9) (D 10) (D 11) (D 12) (V 5) (.tuple #[t.val z, .int .i64 e]) (V 7) (V 8) (V 9) (V 10) (V 12) _
      rw [hD5, hD7, hD8, hD9, hD11, hD12]
      exact hI.call hb hst
    · obtain rfl := Option.some.inj ho
      intro D V ρ wi hE hI hDi hT hF hs hd hk
      have e15 : ρ (.tmp 15) = V 6 := hd 6 15 (by kernel_rfl) (by kernel_rfl) (by show _ < 26; decide)
      have hD5 : D 5 = true := hT 2 5 (by kernel_rfl)
      have hD6 : D 6 = true := hT 1 6 (by kernel_rfl)
      have hD7 : D 7 = false := hDi
      have hD8 : D 8 = false := hF 1 8 (by show _ < 13; decide) (by kernel_rfl)
      have hD9 : D 9 = false := hF 1 9 (by show _ < 13; decide) (by kernel_rfl)
      have hD11 : D 11 = false := hF 1 11 (by show _ < 13; decide) (by kernel_rfl)
      have hD12 : D 12 = false := hF 1 12 (by show _ < 13; decide) (by kernel_rfl)
      clear hT hF
      rw [hD6, hD7] at hI
      exact Reg.Gives.value (v := V 6) (w' := wi) (by go_simp) ⟨fun x h => (by cases h), by show DoSt wb t e r lay (D 5) (D 6) true (D 8) (D 9) (D 10) (D 11) (D 12) (V 5) (V 6) (V 6) (V 8) (V 9) (V 10) (V 12) _; rw [hD6]; exact hI.m7⟩
    · obtain rfl := Option.some.inj ho
      intro D V ρ wi hE hI hDi hT hF hs hd hk
      have e8 : ρ (.tmp 8) = V 7 := hd 7 8 (by kernel_rfl) (by kernel_rfl) (by show _ < 26; decide)
      have hD5 : D 5 = true := hT 3 5 (by kernel_rfl)
      have hD6 : D 6 = true := hT 2 6 (by kernel_rfl)
      have hD7 : D 7 = true := hT 1 7 (by kernel_rfl)
      have hD8 : D 8 = false := hDi
      have hD11 : D 11 = false := hF 1 11 (by show _ < 13; decide) (by kernel_rfl)
      have hD12 : D 12 = false := hF 1 12 (by show _ < 13; decide) (by kernel_rfl)
      clear hT hF
      rw [hD6, hD7, hD8] at hI
      obtain ⟨z, f, h8⟩ := hI.m8
      have e8b := e8.trans f
      clear e8
      exact Reg.Gives.value (v := t.val z) (w' := wi) (by go_simp) ⟨fun x h => (by cases h), by show DoSt wb t e r lay (D 5) (D 6) (D 7) true (D 9) (D 10) (D 11) (D 12) (V 5) (V 6) (V 7) (t.val z) (V 9) (V 10) (V 12) _; rw [hD6, hD7]; exact h8⟩
    · obtain rfl := Option.some.inj ho
      intro D V ρ wi hE hI hDi hT hF hs hd hk
      have e8 : ρ (.tmp 8) = V 7 := hd 7 8 (by kernel_rfl) (by kernel_rfl) (by show _ < 26; decide)
      have hD5 : D 5 = true := hT 3 5 (by kernel_rfl)
      have hD6 : D 6 = true := hT 2 6 (by kernel_rfl)
      have hD7 : D 7 = true := hT 1 7 (by kernel_rfl)
      have hD9 : D 9 = false := hDi
      have hD12 : D 12 = false := hF 1 12 (by show _ < 13; decide) (by kernel_rfl)
      clear hT hF
      rw [hD6, hD7, hD9] at hI
      obtain ⟨z, f, h9⟩ := hI.m9
      have e8b := e8.trans f
      clear e8
      exact Reg.Gives.value (v := .int .i64 e) (w' := wi) (by go_simp) ⟨fun x h => (by cases h), by show DoSt wb t e r lay (D 5) (D 6) (D 7) (D 8) true (D 10) (D 11) (D 12) (V 5) (V 6) (V 7) (V 8) (.int .i64 e) (V 10) (V 12) _; rw [hD6, hD7]; exact h9⟩
    · obtain rfl := Option.some.inj ho
      intro D V ρ wi hE hI hDi hT hF hs hd hk
      have hD10 : D 10 = false := hDi
      have hD11 : D 11 = false := hF 1 11 (by show _ < 13; decide) (by kernel_rfl)
      have hD12 : D 12 = false := hF 1 12 (by show _ < 13; decide) (by kernel_rfl)
      clear hT hF
      rw [hD10, hD11] at hI
      exact Reg.Gives.value (v := .pointer (some ⟨wi.heap.size, 0, none⟩)) (w' := wi.alloc (.cells #[.int .i64 0, .int .i64 0, .int .i64 0, .int .i64 0, .slice none 0 0, .slice none 0 0, .slice none 0 0, .slice none 0 0] 32)) (by go_simp) ⟨fun x h => (by cases h), by show DoSt wb t e r lay (D 5) (D 6) (D 7) (D 8) (D 9) true (D 11) (D 12) (V 5) (V 6) (V 7) (V 8) (V 9) (.pointer (some ⟨wi.heap.size, 0, none⟩)) (V 12) _; rw [hD11]; exact hI.alloc⟩
    · obtain rfl := Option.some.inj ho
      intro D V ρ wi hE hI hDi hT hF hs hd hk
      have e6 : ρ (.tmp 6) = V 10 := hd 10 6 (by kernel_rfl) (by kernel_rfl) (by show _ < 26; decide)
      have e16 : ρ (.tmp 16) = V 8 := hd 8 16 (by kernel_rfl) (by kernel_rfl) (by show _ < 26; decide)
      have hD5 : D 5 = true := hT 1 5 (by kernel_rfl)
      have hD6 : D 6 = true := hT 1 6 (by kernel_rfl)
      have hD7 : D 7 = true := hT 1 7 (by kernel_rfl)
      have hD8 : D 8 = true := hT 1 8 (by kernel_rfl)
      have hD10 : D 10 = true := hT 1 10 (by kernel_rfl)
      have hD11 : D 11 = false := hDi
      have hD12 : D 12 = false := hF 1 12 (by show _ < 13; decide) (by kernel_rfl)
      clear hT hF
      rw [hD6, hD8, hD10, hD11] at hI
      obtain ⟨k, z, f1, f2, f3, h4⟩ := hI.put
      exact Reg.Gives.skip (w' := wi.setCells k 0 (t.vals z)) (exec_store 32 _ _ rfl k 0 #[.int .i64 t.node, .int .i64 t.nodes, .int .i64 t.cells, .int .i64 t.epoch, .slice z.P t.places.length z.p, .slice z.Q t.prep.length z.q, .slice z.D t.dec.length z.d, .slice z.C t.com.length z.c] (e6.trans f1) (e16.trans f2) (run_storeVar_mid _ k 0 32 #[.int .i64 t.node, .int .i64 t.nodes, .int .i64 t.cells, .int .i64 t.epoch, .slice z.P t.places.length z.p, .slice z.Q t.prep.length z.q, .slice z.D t.dec.length z.d, .slice z.C t.com.length z.c] f3 (by kernel_rfl) (by simp [Value.oneCell']))) ⟨fun x h => (by cases h), by show DoSt wb t e r lay (D 5) (D 6) (D 7) (D 8) (D 9) (D 10) true (D 12) (V 5) (V 6) (V 7) (V 8) (V 9) (V 10) (V 12) _; rw [hD6, hD8, hD10]; exact h4⟩
    · obtain rfl := Option.some.inj ho
      intro D V ρ wi hE hI hDi hT hF hs hd hk
      have e17 : ρ (.tmp 17) = V 9 := hd 9 17 (by kernel_rfl) (by kernel_rfl) (by show _ < 26; decide)
      have hD5 : D 5 = true := hT 1 5 (by kernel_rfl)
      have hD6 : D 6 = true := hT 1 6 (by kernel_rfl)
      have hD7 : D 7 = true := hT 1 7 (by kernel_rfl)
      have hD8 : D 8 = true := hT 1 8 (by kernel_rfl)
      have hD9 : D 9 = true := hT 1 9 (by kernel_rfl)
      have hD10 : D 10 = true := hT 1 10 (by kernel_rfl)
      have hD11 : D 11 = true := hT 1 11 (by kernel_rfl)
      have hD12 : D 12 = false := hDi
      clear hT hF
      rw [hD6, hD9, hD12] at hI
      obtain ⟨f, h12⟩ := hI.m12
      have e17b := e17.trans f
      clear e17
      exact Reg.Gives.value (v := .int .i64 e) (w' := wi) (by go_simp) ⟨fun x h => (by cases h), by show DoSt wb t e r lay (D 5) (D 6) (D 7) (D 8) (D 9) (D 10) (D 11) true (V 5) (V 6) (V 7) (V 8) (V 9) (V 10) (.int .i64 e) _; rw [hD6, hD9]; exact h12⟩
    · omega
  · intro V wz hk hI
    simp only [Reg.putsO, List.foldl_cons, List.foldl_nil, Act.put, List.setIfInBounds_toArray, List.set_cons_succ, List.set_cons_zero]
    replace hI : DoSt wb t e r lay true true true true true true true true (V 5) (V 6) (V 7) (V 8) (V 9) (V 10) (V 12) wz := hI
    clear hk
    obtain ⟨z, ⟨_, _, _, _, hv12⟩, hsee, hkk⟩ := hI.ap rfl
    obtain ⟨k, hk1, hk2⟩ := hkk rfl
    have hv13 := hv12 rfl
    rw [hk1, hv13]
    have HSWZ := Lib.hid (HSW.out.later hI.low (S' := S) (fun k _ e => e) HSW.out.has)
    have HK := Lib.hid hk2
    have HSEE : Hid (∀ w', Only (fun k => k < wb.heap.size) wz w' → Sees w' t z) := Lib.hid fun w' h => hsee w' (h.mono fun k _ e => Or.inl e)
    have HLOW := Lib.hid (HWB.out.trans (hI.low.mono HWB.out.size))
    have hx := HSWZ.out.var.cell (j := 0) rfl
    rw [HNN.out] at hx
    clear hI hsee hk1 hk2 hv12 hv13 hkk HAP HREC HROW HVAR HSW
    by_cases he : e = 0
    · subst he
      go_upto_region 3 with (fail)
      apply wp_region_lit
      refine Go.Great.wpList_runTo rfl (some 20) rfl (.slice (some ⟨g, 0, none⟩) n c) wz (by go_simp) ?_
      refine Go.Great.wpList_runTo rfl (some 21) rfl (.int .i64 (ii : Int)) wz (by rfl) ?_
      refine wpList_load_cells rfl 32 _ rfl k #[.int .i64 t.node, .int .i64 t.nodes, .int .i64 t.cells, .int .i64 t.epoch, .slice z.P t.places.length z.p, .slice z.Q t.prep.length z.q, .slice z.D t.dec.length z.d, .slice z.C t.com.length z.c] rfl rfl HK.out Try.underlying32 rfl (by kernel_rfl) ?_
      refine Go.Great.wpList_runTo rfl (some 23) rfl (.pointer (some ⟨g, ii * 8, none⟩)) wz (by go_simp) ?_
      refine wpList_store_mid rfl 32 _ _ rfl g (ii * 8) #[.int .i64 t.node, .int .i64 t.nodes, .int .i64 t.cells, .int .i64 t.epoch, .slice z.P t.places.length z.p, .slice z.Q t.prep.length z.q, .slice z.D t.dec.length z.d, .slice z.C t.com.length z.c] rfl rfl (HSWZ.out.there HI.out) (by kernel_rfl) (by simp [Value.oneCell']) ?_
      obtain ⟨w9, hw9⟩ : ∃ v, v = wz.setCells g (ii * 8) (t.vals z) := ⟨_, rfl⟩
      have hp := HSWZ.out.put HI.out hw9 (fun w2 h2 => HSEE.out w2 (h2.mono fun k _ e => by have := HS.out k e; have := HSZ.out; omega))
      have HP := Lib.hid hp
      clear hp
      show wpList _ _ _ _ _ (wz.setCells g (ii * 8) (t.vals z))
      rw [← hw9]
      clear hw9
      go_wp2_with fail
      go_returns
      refine ⟨rfl, ⟨_, by rw [← HOK.out trivial]; exact HP.out.1⟩, (Only.of_below HLOW.out).trans HP.out.2 fun _ _ e => e⟩
    · have hnz : (e == 0) = false := by simpa using he
      go_wp2_with fail
      go_returns
      exact ⟨rfl, ⟨ys, by rw [HNO.out he]; exact HSWZ.out⟩, Only.of_below HLOW.out⟩

/-- Where a round stands. -/
structure Rd (W w : World) (b6 g c b17 b18 b19 : Nat) (L : List St) (u : Tid) (q : Pl) (x : It) : Prop where
  low : Below W.heap.size W w
  sts : ∃ ys, Sts w b6 g c (fun j => j = b6 ∨ j = g ∨ j = b18) L ys
  tid : Cells w b17 37 [.int .i64 u.node, .int .i64 u.epoch, .int .i64 u.seq]
  pl : Cells w b18 51 q.vals
  it : Cells w b19 57 x.vals
  ne : b17 ≠ g ∧ b18 ≠ g ∧ b19 ≠ g
  gt : W.heap.size ≤ g
  xt : b6 ≠ b18 ∧ b17 ≠ b18 ∧ b19 ≠ b18 ∧ W.heap.size ≤ b18
section
variable {W w : World} {b6 g c b17 b18 b19 : Nat} {L : List St} {u : Tid} {q : Pl} {x : It}
theorem Rd.later {w' : World} (h : Rd W w b6 g c b17 b18 b19 L u q x) (hb : Below w.heap.size w w') : Rd W w' b6 g c b17 b18 b19 L u q x := by
  obtain ⟨ys, hs⟩ := h.sts
  exact ⟨h.low.trans (hb.mono h.low.size), ⟨ys, hs.later hb (fun k _ e => e) hs.has⟩, h.tid.later hb, h.pl.later hb, h.it.later hb, h.ne, h.gt, h.xt⟩
theorem Rd.step {w' : World} {L' : List St} (h : Rd W w b6 g c b17 b18 b19 L u q x) (hs : ∃ ys, Sts w' b6 g c (fun j => j = b6 ∨ j = g ∨ j = b18) L' ys) (ho : Only (fun k => k = g) w w') : Rd W w' b6 g c b17 b18 b19 L' u q x :=
  ⟨h.low.trans (ho.below h.low.size fun j e => by rw [e]; exact h.gt), hs, cells_only h.tid ho h.ne.1, cells_only h.pl ho h.ne.2.1, cells_only h.it ho h.ne.2.2, h.ne, h.gt, h.xt⟩
theorem rd_any (h : Rd W w b6 g c b17 b18 b19 L u q x) {ii m : Nat} {s : St} (hs : L[ii]? = some s) (r : Rc) (lay : Lay) (ht : Two w r.items r.nodes lay) (hz : Sz m s) (hm : m ≤ 1000) (hr : r.items.length ≤ 1000 ∧ r.nodes.length ≤ 1000) :
    Calls Try.prog 15 #[.int .i64 (ii : Int), r.val lay, .pointer (some ⟨b6, 0, none⟩)] w fun e w' => e = .returned (.bool (decide ((fFollow s r).2 = 0))) ∧ Rd W w' b6 g c b17 b18 b19 (L.set ii (goOn s r)) u q x := by
  obtain ⟨hi, rfl⟩ := List.getElem?_eq_some_iff.1 hs
  obtain ⟨ys, hys⟩ := h.sts
  refine (do_any ii hi r lay m w hys (fun k e => ?_) ht hz hm hr).mono ?_
  · rcases e with rfl | rfl | rfl
    · exact hys.var.lt
    · exact hys.row.lt
    · exact h.pl.lt
  · rintro e w' ⟨h1, h2, h3⟩
    exact ⟨h1, h.step h2 h3⟩
theorem rd_ok (h : Rd W w b6 g c b17 b18 b19 L u q x) {ii m : Nat} {s t : St} (hs : L[ii]? = some s) (r : Rc) (lay : Lay) (ht : Two w r.items r.nodes lay) (hz : Sz m s) (hm : m ≤ 1000) (hr : r.items.length ≤ 1000 ∧ r.nodes.length ≤ 1000) (hf : (fFollow s r).2 = 0) (hft : (fFollow s r).1 = t) :
    Calls Try.prog 15 #[.int .i64 (ii : Int), r.val lay, .pointer (some ⟨b6, 0, none⟩)] w fun e w' => e = .returned (.bool true) ∧ Rd W w' b6 g c b17 b18 b19 (L.set ii t) u q x := by
  refine (rd_any h hs r lay ht hz hm hr).mono fun e w' h1 => ?_
  rw [decide_eq_true hf] at h1
  unfold goOn at h1
  rw [if_pos hf, hft] at h1
  exact h1
theorem rd_no (h : Rd W w b6 g c b17 b18 b19 L u q x) {ii m : Nat} {s : St} (hs : L[ii]? = some s) (r : Rc) (lay : Lay) (ht : Two w r.items r.nodes lay) (hz : Sz m s) (hm : m ≤ 1000) (hr : r.items.length ≤ 1000 ∧ r.nodes.length ≤ 1000) (hf : (fFollow s r).2 ≠ 0) :
    Calls Try.prog 15 #[.int .i64 (ii : Int), r.val lay, .pointer (some ⟨b6, 0, none⟩)] w fun e w' => e = .returned (.bool false) ∧ Rd W w' b6 g c b17 b18 b19 L u q x := by
  refine (rd_any h hs r lay ht hz hm hr).mono fun e w' h1 => ?_
  rw [decide_eq_false hf] at h1
  unfold goOn at h1
  rw [if_neg hf] at h1
  obtain ⟨hi, hh⟩ := List.getElem?_eq_some_iff.1 hs
  have e9 : L.set ii s = L := by rw [← hh]; exact List.set_getElem_self hi
  rw [e9] at h1
  exact h1
end
theorem Nd.sz {n i K : Nat} {s : St} {q : Pl} (h : Nd n i K s q) (hc : s.com = []) : Sz K s := ⟨by rw [h.places]; show 1 ≤ 100; decide, by rw [h.prep]; exact Nat.zero_le _, h.len, by rw [hc]; exact Nat.zero_le _, fun p hp => (by rw [h.prep] at hp; cases hp), fun p hp => (by rw [hc] at hp; cases hp)⟩
/-- A piece of a function's code. -/
def sub : List Nat → Code → Code
  | 0 :: p, .seq a _ => sub p a
  | 1 :: p, .seq _ b => sub p b
  | 0 :: p, .cond _ a _ => sub p a
  | 1 :: p, .cond _ _ b => sub p b
  | 0 :: p, .block _ a => sub p a
  | 0 :: p, .loop a => sub p a
  | _, c => c
end Go.Proofs.Ytakeldpmfbahnaa.LedgerMoves

namespace Go.Proofs.Ytakeldpmfbahnaa.LedgerMoves
set_option maxRecDepth 100000
open Go.ChangeShapes Go.WideShapes Go.ChangeAt Go.RowKit Go.Deep Go.Proofs.Ytakeldpmfbahnaa.Mem Go.Proofs.Ytakeldpmfbahnaa.Item Go.Proofs.Ytakeldpmfbahnaa.Rec Go.Proofs.Ytakeldpmfbahnaa.Led

theorem mv_first {n i : Nat} (hi : i < n) (hn : n ≤ 16) : firstL ((i : Int) + 1) (n : Int) 1 = (firstS ((i : Int) + 1) (n : Int) 1, 0) ∧ Nd n i 0 (firstS ((i : Int) + 1) (n : Int) 1) (if i = 0 then ⟨1, 0, 0, 0, 0⟩ else pl0) := by
  have hr : right (rcB ((i : Int) + 1) (n : Int) 1) = true := by
    simp [right, othersB, left, hasB, fl, rcB, rf, lims, nodeLim, Rc.get, Rc.numV, t0B]
    omega
  refine ⟨?_, rfl, rfl, ?_, rfl, fun d hd => (by cases hd), Nat.zero_le _, rfl⟩
  · unfold firstL
    rw [hr, if_neg (by decide)]
    rfl
  · have hh : home ((0 : Nat) : Int) (n : Int) = 1 := by
      unfold home
      rw [if_neg (by omega)]
      simp
    have e : (firstPl ((i : Int) + 1) (n : Int) 1 1) = [if (0 : Nat) < 1 ∧ home ((0 : Nat) : Int) (n : Int) = (i : Int) + 1 then ⟨1, 0, 0, 0, 0⟩ else pl0] := rfl
    show firstPl ((i : Int) + 1) (n : Int) 1 1 = _
    rw [e, hh]
    by_cases h0 : i = 0
    · subst h0
      rfl
    · rw [if_neg h0, if_neg (by omega)]
def mvL (n j : Nat) : List St := (List.range j).map fun (i : Nat) => firstS ((i : Int) + 1) (n : Int) 1
theorem mvL_len (n j : Nat) : (mvL n j).length = j := by unfold mvL; simp
theorem mvL_succ (n j : Nat) : mvL n (j + 1) = mvL n j ++ [firstS ((j : Int) + 1) (n : Int) 1] := by unfold mvL; rw [List.range_succ, List.map_append]; rfl
theorem append_state (w : World) (ty : TypeId) (base : Nat) (v : Value) (us : List (List Value)) (s : St) (y : Sy) (g5 : Nat) (_hus : Fit 8 us) (hown : w.ownsRow base 32 8 v us.length us.flatten) (hc : Cells w g5 32 (s.vals y)) (hn : us.length ≤ 100) (hbase : base ≤ w.heap.size) :
    ∃ v' w', (Builtin.append_ #[60, 60] ty #[v, .slice (some ⟨g5, 0, none⟩) 1 1]).run Try.prog w = .ok v' w' ∧ w'.ownsRow base 32 8 v' (us.length + 1) (us ++ [s.vals y]).flatten ∧ w.grownBy w' v.ownBlock ∧ (v'.ownBlock = v.ownBlock ∨ v'.ownBlock = some w.heap.size) := by
  have hinfo : (Try.prog.info? 32).map (fun i => (i.zero, i.size, i.bytes)) = some (some (.agg #[.int .i64 0, .int .i64 0, .int .i64 0, .int .i64 0, .slice none 0 0, .slice none 0 0, .slice none 0 0, .slice none 0 0]), 8, 128) := by kernel_rfl
  obtain ⟨i0, hi, hz0, hz1, hz2⟩ := info_parts hinfo
  have hbs : Fit 8 [s.vals y] := ⟨fun v hv => (by rw [List.mem_singleton.1 hv]; rfl), fun v hv => (by rw [List.mem_singleton.1 hv]; exact vals_one s y)⟩
  have hr : Sl w (some ⟨g5, 0, none⟩) 8 [s.vals y] := cells_sl (by simpa using hc) hbs.len
  obtain ⟨v', w', h1, h2, h3, _, h5⟩ := run_append_own_at (P := Try.prog) w base 60 ty 32 i0 (.agg #[.int .i64 0, .int .i64 0, .int .i64 0, .int .i64 0, .slice none 0 0, .slice none 0 0, .slice none 0 0, .slice none 0 0]) 8 128 Try.underlying60 hi hz0 hz1 hz2 rfl (by decide) v us.length us.flatten hown
    ⟨g5, 0, none⟩ [s.vals y].length 1 [s.vals y].flatten (flatten_len hbs.len) (fun j u hu => sl_cell hr hbs.len (by decide) hu) (flatten_one hbs) (by unfold maxLen; simp only [List.length_singleton]; omega) (by simp only [List.length_singleton]; omega) hbase
  exact ⟨v', w', h1, by rw [List.flatten_append]; exact h2, h3, h5⟩
/-- Where the states are laid. -/
structure Bd (W w : World) (b6 base n j : Nat) (v : Value) (ys : List Sy) : Prop where
  low : Below W.heap.size W w
  var : Cells w b6 60 [v]
  row : w.ownsRow base 32 8 v j (List.zipWith St.vals (mvL n j) ys).flatten
  len : ys.length = j
  see : ∀ i (h : i < (mvL n j).length) (h' : i < ys.length), ∀ w', Only (fun k => k = b6 ∨ some k = v.ownBlock) w w' → Sees w' (mvL n j)[i] ys[i]
  gt : W.heap.size ≤ b6 ∧ b6 < base ∧ base ≤ w.heap.size
theorem Bd.own {W w : World} {b6 base n j : Nat} {v : Value} {ys : List Sy} (h : Bd W w b6 base n j v ys) {k : Nat} (hk : v.ownBlock = some k) : base ≤ k ∧ k < w.heap.size := by
  have := h.row.lt k hk
  exact ⟨this.1, this.2⟩
theorem Bd.later {W w w' : World} {b6 base n j : Nat} {v : Value} {ys : List Sy} (h : Bd W w b6 base n j v ys) (hb : Below w.heap.size w w') : Bd W w' b6 base n j v ys :=
  ⟨h.low.trans (hb.mono h.low.size), h.var.later hb, row_only h.row (Only.of_below hb) (fun _ _ e => e), h.len, fun i h1 h2 w2 h3 => h.see i h1 h2 w2 ((Only.of_below hb).trans h3 fun _ _ e => e), h.gt.1, h.gt.2.1, Nat.le_trans h.gt.2.2 hb.size⟩
theorem Bd.step {W w w6 w7 : World} {b6 base n j B : Nat} {v v' : Value} {ys : List Sy} {y : Sy} (h : Bd W w b6 base n j v ys) (hs : ∀ w', Only (fun k => k < B) w w' → Sees w' (firstS ((j : Int) + 1) (n : Int) 1) y) (hB : b6 < B ∧ ∀ k, v.ownBlock = some k → k < B)
    (h1 : w6.ownsRow base 32 8 v' ((List.zipWith St.vals (mvL n j) ys).length + 1) (List.zipWith St.vals (mvL n j) ys ++ [(firstS ((j : Int) + 1) (n : Int) 1).vals y]).flatten) (h2 : w.grownBy w6 v.ownBlock) (h3 : v'.ownBlock = v.ownBlock ∨ v'.ownBlock = some w.heap.size) (h7 : w7 = w6.setCell ⟨b6, 0, none⟩ v') : Bd W w7 b6 base n (j + 1) v' (ys ++ [y]) := by
  have ho6 := Only.of_grown h2
  have ho7 : Only (fun k => k = b6) w6 w7 := by rw [h7]; exact Only.of_set w6 ⟨b6, 0, none⟩ v'
  have hnb : ¬ some b6 = v.ownBlock := fun e => by
    have := (h.own e.symm).1
    have := h.gt.2.1
    omega
  have hv6 : Cells w6 b6 60 [v] := cells_only h.var ho6 hnb
  have hb67 : b6 < w.heap.size := h.var.lt
  have hall : ∀ w2, Only (fun k => k = b6 ∨ some k = v'.ownBlock) w7 w2 → Only (fun k => k = b6 ∨ some k = v.ownBlock) w w2 := fun w2 h8 => by
    refine ((ho6.mono fun k _ e => Or.inr e).trans ho7 fun k _ e => Or.inl e).trans h8 fun k hk e => ?_
    rcases e with e | e
    · exact Or.inl e
    · rcases h3 with f | f
      · rw [f] at e; exact Or.inr e
      · rw [f] at e
        have := Option.some.inj e
        omega
  refine ⟨?_, ?_, ?_, by rw [List.length_append, h.len]; rfl, fun i j1 j2 w2 h8 => ?_, h.gt.1, h.gt.2.1, ?_⟩
  · refine h.low.trans (((ho6.mono fun k _ e => Or.inr e).trans ho7 fun k _ e => Or.inl e : Only (fun k => k = b6 ∨ some k = v.ownBlock) w w7).below h.low.size fun k e => ?_)
    rcases e with e | e
    · rw [e]; exact h.gt.1
    · have := (h.own e.symm).1
      have := h.gt.1
      have := h.gt.2.1
      omega
  · rw [h7]
    exact hv6.set_ 0 v'
  · have e1 : (List.zipWith St.vals (mvL n j) ys).length = j := by rw [List.length_zipWith, mvL_len, h.len, Nat.min_self]
    rw [e1] at h1
    have e2 : List.zipWith St.vals (mvL n (j + 1)) (ys ++ [y]) = List.zipWith St.vals (mvL n j) ys ++ [(firstS ((j : Int) + 1) (n : Int) 1).vals y] := by
      rw [mvL_succ, List.zipWith_append (by rw [mvL_len, h.len])]
      rfl
    rw [e2]
    refine row_only h1 ho7 fun k hk e => ?_
    rcases h3 with f | f
    · rw [f] at hk
      rw [e] at hk
      exact hnb hk.symm
    · rw [f] at hk
      have := Option.some.inj hk
      omega
  · have hw := hall w2 h8
    by_cases hi : i < (mvL n j).length
    · have e1 : (mvL n (j + 1))[i] = (mvL n j)[i] := by simp only [mvL_succ]; exact List.getElem_append_left hi
      have hiy : i < ys.length := by rw [h.len]; rw [mvL_len] at hi; exact hi
      have e2 : (ys ++ [y])[i] = ys[i] := List.getElem_append_left hiy
      rw [e1, e2]
      exact h.see i hi hiy w2 hw
    · have hij : i = j := by rw [mvL_len] at hi j1; omega
      subst hij
      have e1 : (mvL n (i + 1))[i] = firstS ((i : Int) + 1) (n : Int) 1 := by
        simp only [mvL_succ]
        rw [List.getElem_append_right (by rw [mvL_len]; exact Nat.le_refl _)]
        simp
      have e2 : (ys ++ [y])[i] = y := by
        rw [List.getElem_append_right (by rw [h.len]; exact Nat.le_refl _)]
        simp
      rw [e1, e2]
      refine hs w2 (hw.mono fun k _ e => ?_)
      rcases e with e | e
      · rw [e]; exact hB.1
      · exact hB.2 k e.symm
  · have := h2.size
    have := ho7.size
    have := h.gt.2.2
    omega
set_option maxHeartbeats 4000000 in
/-- The nodes' first states. -/
theorem p8 {W wr : World} {b6 base n : Nat} (HB : Hid (Bd W wr b6 base n 0 (.slice none 0 0) [])) (hn : n ≤ 16)
    {cc : Code} (hc : cc = sub [1, 1, 1, 1, 1, 0, 1, 0] ((Try.f5.body).getD .skip)) {s0 s1 s2 s3 s4 s8 s9 s10 s11 s12 s13 s14 s15 s16 s17 s18 s19 s20 s21 s22 s23 s24 s25 s26 s27 s28 s29 s30 s31 s32 s33 s34 s35 s36 s37 s38 s39 s40 s41 s42 s43 s44 s45 s46 s47 s48 s49 s50 s51 s52 s53 s54 s55 s56 s57 s58 s59 s60 s61 s62 s63 s64 s65 s66 s67 s68 s69 s70 s71 s72 s73 s74 s75 s76 s77 s78 s79 s80 s81 s82 s83 s84 s85 s86 s87 s88 s89 s90 s91 s92 s93 s94 s95 s96 s97 s98 s99 s100 s101 s102 s103 s104 s105 s106 s107 s108 s109 s110 s111 s112 s113 s114 s115 s116 s117 s118 s119 s120 s121 s122 s123 s124 s125 s126 s127 s128 s129 s130 s131 s132 s133 s134 s135 s136 s137 s138 s139 s140 s141 s142 s143 s144 s145 s146 s147 s148 s149 s150 s151 s152 s153 s154 s155 s156 s157 s158 s159 s160 s161 s162 s163 s164 s165 s166 s167 s168 s169 s170 s171 s172 s173 s174 s175 s176 s177 s178 s179 s180 s181 s182 s183 s184 s185 s186 s187 s188 s189 s190 s191 s192 s193 s194 s195 s196 s197 s198 s199 s200 s201 s202 s203 s204 s205 s206 s207 s208 s209 s210 s211 s212 s213 s214 s215 s216 s217 s218 s219 s220 s221 s222 s223 s224 s225 s226 : Value} {Q : Exit → Act → World → Prop}
    (hQ : ∀ (u4 u7 u8 u9 u31 u32 u33 u34 u35 u36 u37 u38 u39 u40 u41 u42 u43 u44 u45 u46 u47 : Value) (w' : World), (∃ v ys, Hid (Bd W w' b6 base n n v ys)) → Q (.exit 0) { tmps := List.toArray (s0::s1::s2::s3::u4::.int .i64 (n : Int)::.pointer (some ⟨b6, 0, none⟩)::u7::u8::u9::s10::s11::s12::s13::s14::s15::s16::s17::s18::s19::s20::s21::s22::s23::s24::s25::s26::s27::s28::s29::s30::u31::u32::u33::u34::u35::u36::u37::u38::u39::u40::u41::u42::u43::u44::u45::u46::u47::s48::s49::s50::s51::s52::s53::s54::s55::s56::s57::s58::s59::s60::s61::s62::s63::s64::s65::s66::s67::s68::s69::s70::s71::s72::s73::s74::s75::s76::s77::s78::s79::s80::s81::s82::s83::s84::s85::s86::s87::s88::s89::s90::s91::s92::s93::s94::s95::s96::s97::s98::s99::s100::s101::s102::s103::s104::s105::s106::s107::s108::s109::s110::s111::s112::s113::s114::s115::s116::s117::s118::s119::s120::s121::s122::s123::s124::s125::s126::s127::s128::s129::s130::s131::s132::s133::s134::s135::s136::s137::s138::s139::s140::s141::s142::s143::s144::s145::s146::s147::s148::s149::s150::s151::s152::s153::s154::s155::s156::s157::s158::s159::s160::s161::s162::s163::s164::s165::s166::s167::s168::s169::s170::s171::s172::s173::s174::s175::s176::s177::s178::s179::s180::s181::s182::s183::s184::s185::s186::s187::s188::s189::s190::s191::s192::s193::s194::s195::s196::s197::s198::s199::s200::s201::s202::s203::s204::s205::s206::s207::s208::s209::s210::s211::s212::s213::s214::s215::s216::s217::s218::s219::s220::s221::s222::s223::s224::s225::s226::[]), defers := [] } w') :
    Code.wp Try.prog cc Q { tmps := List.toArray (s0::s1::s2::s3::s4::.int .i64 (n : Int)::.pointer (some ⟨b6, 0, none⟩)::.int .i64 1::s8::s9::s10::s11::s12::s13::s14::s15::s16::s17::s18::s19::s20::s21::s22::s23::s24::s25::s26::s27::s28::s29::s30::s31::s32::s33::s34::s35::s36::s37::s38::s39::s40::s41::s42::s43::s44::s45::s46::s47::s48::s49::s50::s51::s52::s53::s54::s55::s56::s57::s58::s59::s60::s61::s62::s63::s64::s65::s66::s67::s68::s69::s70::s71::s72::s73::s74::s75::s76::s77::s78::s79::s80::s81::s82::s83::s84::s85::s86::s87::s88::s89::s90::s91::s92::s93::s94::s95::s96::s97::s98::s99::s100::s101::s102::s103::s104::s105::s106::s107::s108::s109::s110::s111::s112::s113::s114::s115::s116::s117::s118::s119::s120::s121::s122::s123::s124::s125::s126::s127::s128::s129::s130::s131::s132::s133::s134::s135::s136::s137::s138::s139::s140::s141::s142::s143::s144::s145::s146::s147::s148::s149::s150::s151::s152::s153::s154::s155::s156::s157::s158::s159::s160::s161::s162::s163::s164::s165::s166::s167::s168::s169::s170::s171::s172::s173::s174::s175::s176::s177::s178::s179::s180::s181::s182::s183::s184::s185::s186::s187::s188::s189::s190::s191::s192::s193::s194::s195::s196::s197::s198::s199::s200::s201::s202::s203::s204::s205::s206::s207::s208::s209::s210::s211::s212::s213::s214::s215::s216::s217::s218::s219::s220::s221::s222::s223::s224::s225::s226::[]), defers := [] } wr := by
  have HQ := Lib.hid hQ
  clear hQ
  conv at hc => rhs; whnf
  subst hc
  go_loopw [7] (fun i wx => ∃ (j : Nat), j ≤ n ∧ i = .int .i64 ((j : Int) + 1) ∧ Hid (∃ v ys, Bd W wx b6 base n j v ys)) (fun i _ => n + 1 - (intOf i).toNat)
  case atStart => exact ⟨0, Nat.zero_le _, rfl, Lib.hid ⟨_, _, HB.out⟩⟩
  case round =>
    clear HB
    obtain ⟨j, hj, rfl, HB⟩ := hrel
    by_cases hjt : j < n
    · obtain ⟨v, ys, hbd⟩ := HB.out
      have HBD := Lib.hid hbd
      have hf := (mv_first hjt hn).1
      have HFI := Lib.hid (First_any ((j : Int) + 1) (n : Int) 1 wr)
      rw [hf] at HFI
      clear HB hf hbd
      go_wp2_with fail
      refine HFI.out.mono ?_
      rintro e w3 ⟨⟨y, rfl, hst⟩, hb3⟩
      have HST := Lib.hid hst
      have HB3 := Lib.hid hb3
      obtain ⟨s, hs⟩ : ∃ s, firstS ((j : Int) + 1) (n : Int) 1 = s := ⟨_, rfl⟩
      have HSS := Lib.hid hs
      simp only [hs]
      rw [hs] at HST
      unfold St.val
      obtain ⟨w4, hw4⟩ : ∃ x, x = w3.alloc (.cells #[.int .i64 s.node, .int .i64 s.nodes, .int .i64 s.cells, .int .i64 s.epoch, .slice y.P s.places.length y.p, .slice y.Q s.prep.length y.q, .slice y.D s.dec.length y.d, .slice y.C s.com.length y.c] 32) := ⟨_, rfl⟩
      obtain ⟨w5, hw5⟩ : ∃ x, x = w4.alloc (.cells #[.int .i64 s.node, .int .i64 s.nodes, .int .i64 s.cells, .int .i64 s.epoch, .slice y.P s.places.length y.p, .slice y.Q s.prep.length y.q, .slice y.D s.dec.length y.d, .slice y.C s.com.length y.c] 32) := ⟨_, rfl⟩
      have hb4 : Below w3.heap.size w3 w4 := by rw [hw4]; exact below_alloc _ _
      have hb45 : Below w4.heap.size w4 w5 := by rw [hw5]; exact below_alloc _ _
      have hs4 : w4.heap.size = w3.heap.size + 1 := by rw [hw4, World.size_alloc]
      have hc5 : Cells w5 (w3.heap.size + 1) 32 (s.vals y) := by rw [← hs4, hw5]; exact cells_new _ _ _ _ rfl
      have hb35 : Below w3.heap.size w3 w5 := hb4.trans (hb45.mono hb4.size)
      have HB5 := Lib.hid (HBD.out.later (hb3.trans (hb35.mono hb3.size)))
      have HC5 := Lib.hid hc5
      have HS5 : Hid (∀ w', Only (fun k => k < wr.heap.size) w5 w' → Sees w' s y) := Lib.hid fun w' h' => HST.out w' ((Only.of_below hb35).trans h' fun _ _ e => e)
      have hv3 := (HBD.out.later hb3).var.cell (j := 0) rfl
      have hl3 := (HBD.out.later hb3).var.lt
      clear hst hb3 hb4 hb45 hs4 hc5 hb35 hs HFI
      go_wp2_with (at_builtin
                   go_loud (rw [← hw4]
                            rw [← hw5]
                            obtain ⟨v', w6, hrun, ho6, hg6, hat6⟩ := append_state w5 60 base v (List.zipWith St.vals (mvL n j) ys) s y (w3.heap.size + 1) (fit_states _ _) (by rw [List.length_zipWith, mvL_len, HB5.out.len, Nat.min_self]; exact HB5.out.row) HC5.out (by rw [List.length_zipWith, mvL_len]; omega) HB5.out.gt.2.2
                            have hlen : (List.zipWith St.vals (mvL n j) ys).length = j := by rw [List.length_zipWith, mvL_len, HB5.out.len, Nat.min_self]
                            rw [hlen] at ho6
                            obtain ⟨g9, c9, hvf, _, _⟩ := ho6.form (Nat.succ_pos _)
                            subst hvf
                            refine Lib.wpList_append_run w5 rfl (.tmp 44) (.tmp 46) 60 60 rfl v (.slice (some ⟨w3.heap.size + 1, 0, none⟩) 1 1) rfl rfl _ _ hrun ?_
                            have HB9 := Lib.hid (HB5.out.step (w7 := w6.setCell ⟨b6, 0, none⟩ (.slice (some ⟨g9, 0, none⟩) (j + 1) c9)) (B := wr.heap.size) (y := y) (by rw [HSS.out]; exact HS5.out) ⟨HBD.out.var.lt, fun k hk => (HBD.out.own hk).2⟩ (by rw [HSS.out, hlen]; exact ho6) hg6 hat6 rfl)
                            have hv6 := cells_only HB5.out.var (Only.of_grown hg6) (fun e => by have := (HB5.out.own e.symm).1; have := HB5.out.gt.2.1; omega)
                            have hx6 := hv6.cell (j := 0) rfl
                            have hf6 := hv6.frozen (j := 0) (show 0 < 1 from Nat.one_pos)
                            clear ho6 hg6 hat6 hrun hv6 hlen))
      go_roundw
      case rel => exact ⟨j + 1, by omega, by go_num, Lib.hid ⟨_, _, HB9.out⟩⟩
      case measure => simp [intOf]; omega
    · have hje : j = n := by omega
      subst hje
      obtain ⟨v, ys, hbd⟩ := HB.out
      have HBD := Lib.hid hbd
      clear HB hbd
      go_wp2_with fail
      exact HQ.out _ _ _ _ _ _ _ _ _ _ _ _ _ _ _ _ _ _ _ _ _ _ ⟨v, ys, HBD⟩
end Go.Proofs.Ytakeldpmfbahnaa.LedgerMoves

namespace Go.Proofs.Ytakeldpmfbahnaa.LedgerMoves
set_option maxRecDepth 100000
open Go.ChangeShapes Go.WideShapes Go.ChangeAt Go.RowKit Go.Deep Go.Proofs.Ytakeldpmfbahnaa.Mem Go.Proofs.Ytakeldpmfbahnaa.Item Go.Proofs.Ytakeldpmfbahnaa.Rec Go.Proofs.Ytakeldpmfbahnaa.Led

/-- What holds of the nodes at a round's start. -/
structure Ring (n k a : Nat) (hop val : Int) (L : List St) : Prop where
  len : L.length = n
  lt : a < n
  hopB : 0 ≤ hop ∧ hop ≤ (k : Int)
  valB : 0 ≤ val ∧ val ≤ 100
  node : ∀ i (h : i < L.length), ∃ q, Nd n i k L[i] q ∧ q.hop ≤ hop ∧ (i ≠ a → q.status ≠ 1)
  own : ∃ s tt ver, L[a]? = some s ∧ Nd n a k s ⟨1, hop, tt, ver, val⟩ ∧ 0 ≤ ver ∧ ver ≤ (k : Int)
theorem Ring.mono {n k a : Nat} {hop val : Int} {L : List St} (h : Ring n k a hop val L) : Ring n (k + 1) a hop val L := by
  refine ⟨h.len, h.lt, ⟨h.hopB.1, by have := h.hopB.2; omega⟩, h.valB, fun i hi => ?_, ?_⟩
  · obtain ⟨q, h1, h2⟩ := h.node i hi
    exact ⟨q, h1.mono (Nat.le_succ k), h2⟩
  · obtain ⟨s, tt, ver, h1, h2, h3, h4⟩ := h.own
    exact ⟨s, tt, ver, h1, h2.mono (Nat.le_succ k), h3, by omega⟩
theorem Ring.first {n : Nat} (hn : n ≤ 16) (h0 : 0 < n) : Ring n 0 0 0 0 (mvL n n) := by
  have hg : ∀ i (h : i < (mvL n n).length), (mvL n n)[i] = firstS ((i : Int) + 1) (n : Int) 1 := fun i h => by
    have h' : i < n := by rw [mvL_len] at h; exact h
    have e : (mvL n n)[i]? = some (firstS ((i : Int) + 1) (n : Int) 1) := by
      unfold mvL
      rw [List.getElem?_map, List.getElem?_range h']
      rfl
    rw [List.getElem?_eq_getElem h] at e
    exact Option.some.inj e
  have h00 : 0 < (mvL n n).length := by rw [mvL_len]; exact h0
  refine ⟨mvL_len n n, h0, ⟨Int.le_refl _, Int.le_refl _⟩, ⟨Int.le_refl _, by decide⟩, fun i hi => ?_, ⟨(mvL n n)[0], 0, 0, List.getElem?_eq_getElem h00, ?_, Int.le_refl _, Int.le_refl _⟩⟩
  · have h1 := (mv_first (n := n) (i := i) (by rw [mvL_len] at hi; exact hi) hn).2
    rw [hg]
    refine ⟨_, h1, ?_, fun hne => ?_⟩
    · by_cases h9 : i = 0
      · rw [if_pos h9]; exact Int.le_refl _
      · rw [if_neg h9]; exact Int.le_refl _
    · rw [if_neg hne]
      decide
  · have h1 := (mv_first (n := n) (i := 0) h0 hn).2
    rw [if_pos rfl] at h1
    rw [hg]
    exact h1
theorem Ring.next {n k a b : Nat} {hop val : Int} {L : List St} (h : Ring n k a hop val L) (hb : b < n) (hab : b ≠ a) (hk : k ≤ 40) {s3 t sa : St} {qa : Pl} {ver : Int} (hv : 0 ≤ ver ∧ ver ≤ (k : Int)) (ht : Nd n b k t ⟨1, hop + 1, 0, ver + 1, (k : Int) + 7⟩) (hsa : Nd n a (k + 1) sa qa) (hq1 : qa.status ≠ 1) (hq2 : qa.hop = hop + 1) :
    Ring n (k + 1) b (hop + 1) ((k : Int) + 7) (((L.set a s3).set b t).set a sa) := by
  have hl := h.len
  have hla := h.lt
  refine ⟨by simp only [List.length_set]; exact hl, hb, ⟨by have := h.hopB.1; omega, by have := h.hopB.2; omega⟩, ⟨by omega, by omega⟩, fun i hi => ?_, ⟨t, 0, ver + 1, ?_, ht.mono (Nat.le_succ k), by omega, by omega⟩⟩
  · simp only [List.length_set] at hi
    rw [List.getElem_set]
    by_cases e1 : a = i
    · subst e1
      rw [if_pos rfl]
      exact ⟨qa, hsa, by omega, fun _ => hq1⟩
    · rw [if_neg e1, List.getElem_set]
      by_cases e2 : b = i
      · subst e2
        rw [if_pos rfl]
        exact ⟨_, ht.mono (Nat.le_succ k), Int.le_refl _, fun hne => absurd rfl hne⟩
      · rw [if_neg e2, List.getElem_set, if_neg e1]
        obtain ⟨q, h1, h2, h3⟩ := h.node i hi
        exact ⟨q, h1.mono (Nat.le_succ k), by omega, fun _ => h3 (fun e => e1 e.symm)⟩
  · rw [List.getElem?_set, if_neg (fun e => hab e.symm), List.getElem?_set_self (by simp only [List.length_set]; omega)]
theorem Ring.owns {n k a : Nat} {hop val : Int} {L : List St} (h : Ring n k a hop val L) : ∀ i (hi : i < L.length), owns L[i] 0 = decide (i = a) := fun i hi => by
  obtain ⟨q, h1, h2, h3⟩ := h.node i hi
  by_cases e : i = a
  · subst e
    obtain ⟨s, tt, ver, g1, g2, _⟩ := h.own
    obtain ⟨_, g3⟩ := List.getElem?_eq_some_iff.1 g1
    rw [g3, g2.owns]
    simp
  · rw [h1.owns, decide_eq_false (h3 e), decide_eq_false e]
/-- Where the nodes' states lie at a round's start. -/
structure Ms (W w : World) (b6 g c : Nat) (L : List St) : Prop where
  low : Below W.heap.size W w
  sts : ∃ ys, Sts w b6 g c (fun j => j = b6 ∨ j = g) L ys
  gt : W.heap.size ≤ g
theorem Ms.later {W w w' : World} {b6 g c : Nat} {L : List St} (h : Ms W w b6 g c L) (hb : Below w.heap.size w w') : Ms W w' b6 g c L := by
  obtain ⟨ys, hs⟩ := h.sts
  exact ⟨h.low.trans (hb.mono h.low.size), ⟨ys, hs.later hb (fun k _ e => e) hs.has⟩, h.gt⟩
theorem Rd.ms {W w : World} {b6 g c b17 b18 b19 : Nat} {L : List St} {u : Tid} {q : Pl} {x : It} (h : Rd W w b6 g c b17 b18 b19 L u q x) : Ms W w b6 g c L := by
  obtain ⟨ys, hs⟩ := h.sts
  exact ⟨h.low, ⟨ys, hs.later (Below.refl _ _) (fun k _ e => by rcases e with e | e; exact Or.inl e; exact Or.inr (Or.inl e)) ⟨Or.inl rfl, Or.inr rfl⟩⟩, h.gt⟩
/-- Its three variables are laid. -/
theorem Ms.rd {W w w1 w2 w3 : World} {b6 g c : Nat} {L : List St} (h : Ms W w b6 g c L) (u : Tid) (q : Pl) (x : It) (h1 : w1 = w.alloc (.cells #[.int .i64 u.node, .int .i64 u.epoch, .int .i64 u.seq] 37))
    (h2 : w2 = w1.alloc (.cells #[.int .i64 q.status, .int .i64 q.hop, .int .i64 q.to, .int .i64 q.version, .int .i64 q.value] 51)) (h3 : w3 = w2.alloc (.cells #[.int .i64 x.cell, .int .i64 x.version, .int .i64 x.value, .bool x.write, .int .i64 x.new] 57)) :
    Rd W w3 b6 g c w.heap.size (w.heap.size + 1) (w.heap.size + 1 + 1) L u q x := by
  obtain ⟨ys, hs⟩ := h.sts
  have b1 : Below w.heap.size w w1 := by rw [h1]; exact below_alloc _ _
  have b2 : Below w1.heap.size w1 w2 := by rw [h2]; exact below_alloc _ _
  have b3 : Below w2.heap.size w2 w3 := by rw [h3]; exact below_alloc _ _
  have s1 : w1.heap.size = w.heap.size + 1 := by rw [h1, World.size_alloc]
  have s2 : w2.heap.size = w.heap.size + 1 + 1 := by rw [h2, World.size_alloc, s1]
  have b13 : Below w1.heap.size w1 w3 := b2.trans (b3.mono b2.size)
  have b03 : Below w.heap.size w w3 := b1.trans (b13.mono b1.size)
  have c1 : Cells w3 w.heap.size 37 [.int .i64 u.node, .int .i64 u.epoch, .int .i64 u.seq] := Cells.later (by rw [h1]; exact cells_new _ _ _ _ rfl) b13
  have c2 : Cells w3 (w.heap.size + 1) 51 q.vals := by rw [← s1]; exact Cells.later (by rw [h2]; exact cells_new _ _ _ _ rfl) b3
  have c3 : Cells w3 (w.heap.size + 1 + 1) 57 x.vals := by rw [← s2, h3]; exact cells_new _ _ _ _ rfl
  have l6 := hs.var.lt
  have lg := hs.row.lt
  have lw := h.low.size
  refine ⟨h.low.trans (b03.mono h.low.size), ⟨ys, hs.later b03 (fun k hk e => ?_) ⟨Or.inl rfl, Or.inr (Or.inl rfl)⟩⟩, c1, c2, c3, ⟨by omega, by omega, by omega⟩, h.gt, ⟨by omega, by omega, by omega, by omega⟩⟩
  rcases e with e | e | e
  · exact Or.inl e
  · exact Or.inr e
  · omega
theorem Bd.ms {W w : World} {b6 base n : Nat} {v : Value} {ys : List Sy} (h : Bd W w b6 base n n v ys) (hn : 0 < n) : ∃ g c, v = .slice (some ⟨g, 0, none⟩) n c ∧ Ms W w b6 g c (mvL n n) := by
  obtain ⟨g, c, rfl, h1, h2⟩ := h.row.form hn
  refine ⟨g, c, rfl, h.low, ⟨ys, ?_, (cells_of_own h.row).1, by rw [mvL_len]; exact h.len, fun i j1 j2 w2 h8 => h.see i j1 j2 w2 (h8.mono fun k _ e => ?_), by have := h.gt.2.1; omega, ⟨Or.inl rfl, Or.inr rfl⟩⟩, by have := h.gt.1; have := h.gt.2.1; omega⟩
  · rw [mvL_len]; exact h.var
  · rcases e with e | e
    · exact Or.inl e
    · exact Or.inr (by rw [e]; rfl)
end Go.Proofs.Ytakeldpmfbahnaa.LedgerMoves

namespace Go.Proofs.Ytakeldpmfbahnaa.LedgerMoves
set_option maxRecDepth 100000
open Go.ChangeShapes Go.WideShapes Go.ChangeAt Go.RowKit Go.Deep Go.Proofs.Ytakeldpmfbahnaa.Mem Go.Proofs.Ytakeldpmfbahnaa.Item Go.Proofs.Ytakeldpmfbahnaa.Rec Go.Proofs.Ytakeldpmfbahnaa.Led

set_option maxHeartbeats 4000000 in
/-- The cell's node prepares, may not let it go, and decides. -/
theorem p24 {W wr : World} {b6 g c b17 b18 b19 n a b K : Nat} {L : List St} {s : St} {hop tt ver val : Int} (HR : Hid (Rd W wr b6 g c b17 b18 b19 L (mvT ((K : Int) + 1)) ⟨1, hop, tt, ver, val⟩ (mvI ver val ((K : Int) + 7)))) (HS : Hid (L[a]? = some s)) (HND : Hid (Nd n a K s ⟨1, hop, tt, ver, val⟩)) (hn : n ≤ 16) (ha : a < n) (hb : b < n) (hab : b ≠ a) (hK : K ≤ 40) (hhop : 0 ≤ hop ∧ hop ≤ 100) (hver : 0 ≤ ver ∧ ver ≤ 100)
    {cc : Code} (hc : cc = sub [1, 1, 1, 1, 1, 1, 1, 1, 0, 1, 0, 0, 1, 1, 0, 0, 1, 1, 1, 1, 1, 1, 0, 0] ((Try.f5.body).getD .skip)) {s0 s1 s2 s3 s4 s5 s6 s7 s8 s9 s13 s14 s15 s20 s21 s22 s23 s24 s25 s26 s27 s28 s29 s30 s31 s32 s33 s34 s35 s36 s37 s38 s39 s40 s41 s42 s43 s44 s45 s46 s47 s48 s49 s50 s51 s52 s53 s54 s55 s56 s57 s58 s59 s60 s61 s62 s63 s64 s65 s66 s67 s68 s69 s70 s71 s72 s73 s74 s75 s76 s77 s78 s79 s80 s81 s82 s83 s84 s85 s86 s87 s88 s89 s90 s91 s92 s93 s94 s95 s96 s97 s98 s99 s100 s101 s102 s103 s104 s105 s106 s107 s108 s109 s110 s111 s112 s113 s114 s115 s116 s117 s118 s119 s120 s121 s122 s123 s124 s125 s126 s127 s128 s129 s130 s131 s132 s133 s134 s135 s136 s137 s138 s139 s140 s141 s142 s143 s144 s145 s146 s147 s148 s149 s150 s151 s152 s153 s154 s155 s156 s157 s158 s159 s160 s161 s162 s163 s164 s165 s166 s167 s168 s169 s170 s171 s172 s173 s174 s175 s176 s177 s178 s179 s180 s181 s182 s183 s184 s185 s186 s187 s188 s189 s190 s191 s192 s193 s194 s195 s196 s197 s198 s199 s200 s201 s202 s203 s204 s205 s206 s207 s208 s209 s210 s211 s212 s213 s214 s215 s216 s217 s218 s219 s220 s221 s222 s223 s224 s225 s226 : Value} (h13 : s13 = .func (.func 15) #[] #[.pointer (some ⟨b6, 0, none⟩)]) {Q : Exit → Act → World → Prop}
    (hQ : ∀ (u80 u81 u82 u83 u84 u85 u86 u87 u88 u89 u90 u91 u92 u93 u94 u95 u96 u97 u98 u99 u100 u101 u102 u103 u104 u105 u106 u107 u108 u109 u110 u111 u112 u113 : Value) (w' : World), Hid (Rd W w' b6 g c b17 b18 b19 (L.set a (fFollow (mvS1 s ((K : Int) + 1) ver val ((K : Int) + 7) ((a : Int) + 1)) (mvD ((K : Int) + 1))).1) (mvT ((K : Int) + 1)) ⟨1, hop, tt, ver, val⟩ (mvI ver val ((K : Int) + 7))) → Q .normal { tmps := List.toArray (s0::s1::s2::s3::s4::s5::s6::s7::s8::s9::.int .i64 (a : Int)::.int .i64 hop::.int .i64 val::s13::s14::s15::.int .i64 (b : Int)::.pointer (some ⟨b17, 0, none⟩)::.pointer (some ⟨b18, 0, none⟩)::.pointer (some ⟨b19, 0, none⟩)::s20::s21::s22::s23::s24::s25::s26::s27::s28::s29::s30::s31::s32::s33::s34::s35::s36::s37::s38::s39::s40::s41::s42::s43::s44::s45::s46::s47::s48::s49::s50::s51::s52::s53::s54::s55::s56::s57::s58::s59::s60::s61::s62::s63::s64::s65::s66::s67::s68::s69::s70::s71::s72::s73::s74::s75::s76::s77::s78::s79::u80::u81::u82::u83::u84::u85::u86::u87::u88::u89::u90::u91::u92::u93::u94::u95::u96::u97::u98::u99::u100::u101::u102::u103::u104::u105::u106::u107::u108::u109::u110::u111::u112::u113::.bool false::s115::s116::s117::s118::s119::s120::s121::s122::s123::s124::s125::s126::s127::s128::s129::s130::s131::s132::s133::s134::s135::s136::s137::s138::s139::s140::s141::s142::s143::s144::s145::s146::s147::s148::s149::s150::s151::s152::s153::s154::s155::s156::s157::s158::s159::s160::s161::s162::s163::s164::s165::s166::s167::s168::s169::s170::s171::s172::s173::s174::s175::s176::s177::s178::s179::s180::s181::s182::s183::s184::s185::s186::s187::s188::s189::s190::s191::s192::s193::s194::s195::s196::s197::s198::s199::s200::s201::s202::s203::s204::s205::s206::s207::s208::s209::s210::s211::s212::s213::s214::s215::s216::s217::s218::s219::s220::s221::s222::s223::s224::s225::s226::[]), defers := [] } w') :
    Code.wp Try.prog cc Q { tmps := List.toArray (s0::s1::s2::s3::s4::s5::s6::s7::s8::s9::.int .i64 (a : Int)::.int .i64 hop::.int .i64 val::s13::s14::s15::.int .i64 (b : Int)::.pointer (some ⟨b17, 0, none⟩)::.pointer (some ⟨b18, 0, none⟩)::.pointer (some ⟨b19, 0, none⟩)::s20::s21::s22::s23::s24::s25::s26::s27::s28::s29::s30::s31::s32::s33::s34::s35::s36::s37::s38::s39::s40::s41::s42::s43::s44::s45::s46::s47::s48::s49::s50::s51::s52::s53::s54::s55::s56::s57::s58::s59::s60::s61::s62::s63::s64::s65::s66::s67::s68::s69::s70::s71::s72::s73::s74::s75::s76::s77::s78::s79::s80::s81::s82::s83::s84::s85::s86::s87::s88::s89::s90::s91::s92::s93::s94::s95::s96::s97::s98::s99::s100::s101::s102::s103::s104::s105::s106::s107::s108::s109::s110::s111::s112::s113::s114::s115::s116::s117::s118::s119::s120::s121::s122::s123::s124::s125::s126::s127::s128::s129::s130::s131::s132::s133::s134::s135::s136::s137::s138::s139::s140::s141::s142::s143::s144::s145::s146::s147::s148::s149::s150::s151::s152::s153::s154::s155::s156::s157::s158::s159::s160::s161::s162::s163::s164::s165::s166::s167::s168::s169::s170::s171::s172::s173::s174::s175::s176::s177::s178::s179::s180::s181::s182::s183::s184::s185::s186::s187::s188::s189::s190::s191::s192::s193::s194::s195::s196::s197::s198::s199::s200::s201::s202::s203::s204::s205::s206::s207::s208::s209::s210::s211::s212::s213::s214::s215::s216::s217::s218::s219::s220::s221::s222::s223::s224::s225::s226::[]), defers := [] } wr := by
  have HQ := Lib.hid hQ
  clear hQ
  conv at hc => rhs; whnf
  subst hc
  subst h13
  obtain ⟨w1, hw1⟩ : ∃ v, v = wr.alloc (.cells #[.int .i64 0, .int .i64 ver, .int .i64 val, .bool true, .int .i64 ((K : Int) + 7)] 57) := ⟨_, rfl⟩
  obtain ⟨w2, hw2⟩ : ∃ v, v = w1.alloc (.cells #[.int .i64 ((a : Int) + 1)] 3) := ⟨_, rfl⟩
  have hb1 : Below wr.heap.size wr w1 := by rw [hw1]; exact below_alloc _ _
  have hb12 : Below w1.heap.size w1 w2 := by rw [hw2]; exact below_alloc _ _
  have hs1 : w1.heap.size = wr.heap.size + 1 := by rw [hw1, World.size_alloc]
  have hci : Cells w2 wr.heap.size 57 [.int .i64 0, .int .i64 ver, .int .i64 val, .bool true, .int .i64 ((K : Int) + 7)] := Cells.later (by rw [hw1]; exact cells_new _ _ _ _ rfl) hb12
  have hcn : Cells w2 (wr.heap.size + 1) 3 [.int .i64 ((a : Int) + 1)] := by rw [← hs1, hw2]; exact cells_new _ _ _ _ rfl
  have HR2 := Lib.hid (HR.out.later (hb1.trans (hb12.mono hb1.size)))
  have hm1 := mv_prepare HND.out rfl ha hn (by omega) (by exact ⟨hver.1, by show ver ≤ 1000; omega⟩) ((K : Int) + 7)
  have HC1 := Lib.hid (rd_ok HR2.out HS.out (mvP ((K : Int) + 1) ver val ((K : Int) + 7) ((a : Int) + 1)) ⟨some ⟨wr.heap.size, 0, none⟩, 1, some ⟨wr.heap.size + 1, 0, none⟩, 1⟩
    ⟨sl_items (cells_sl (by exact hci) (by simp [It.vals])), sl_nums (cells_sl (by exact hcn) (by simp)), fun e => (by cases e), fun e => (by cases e)⟩ (HND.out.sz HND.out.com) (by omega) ⟨by show 1 ≤ 1000; decide, by show 1 ≤ 1000; decide⟩ (by rw [hm1]) (by rw [hm1]))
  have hln : a < L.length := (List.getElem?_eq_some_iff.1 HS.out).1
  have HS1 : Hid ((L.set a (mvS1 s ((K : Int) + 1) ver val ((K : Int) + 7) ((a : Int) + 1)))[a]? = some (mvS1 s ((K : Int) + 1) ver val ((K : Int) + 7) ((a : Int) + 1))) := Lib.hid (by rw [List.getElem?_set_self hln])
  have hsz1 : Sz (K + 1) (mvS1 s ((K : Int) + 1) ver val ((K : Int) + 7) ((a : Int) + 1)) := by
    have h0 := HND.out.sz HND.out.com
    exact ⟨h0.places, by show 1 ≤ K + 1; omega, Nat.le_succ_of_le h0.dec, Nat.le_succ_of_le h0.com, fun p hp => by
      have hp2 : p ∈ [(⟨mvT ((K : Int) + 1), [mvI ver val ((K : Int) + 7)], [(a : Int) + 1]⟩ : Pr)] := hp
      rw [List.mem_singleton.1 hp2]
      exact ⟨by show 1 ≤ 1000; decide, by show 1 ≤ 1000; decide⟩, h0.cin⟩
  have HZ1 := Lib.hid hsz1
  have HM2 := Lib.hid (mv_refuse HND.out rfl ((K : Int) + 1) ver val ((K : Int) + 7) ((a : Int) + 1) (hop := hop + 1) ⟨by omega, by omega⟩ hb hn hab)
  have HM3 := Lib.hid (mv_done HND.out ver val ((K : Int) + 7) ((a : Int) + 1) (by omega) ⟨hver.1, by show ver ≤ 1000; omega⟩)
  have p4 := HR.out.pl.cell (j := 4) rfl
  have x0 := HR.out.it.cell (j := 0) rfl
  have x1 := HR.out.it.cell (j := 1) rfl
  have x2 := HR.out.it.cell (j := 2) rfl
  have x3 := HR.out.it.cell (j := 3) rfl
  have x4 := HR.out.it.cell (j := 4) rfl
  have t0 := HR.out.tid.cell (j := 0) rfl
  have t1 := HR.out.tid.cell (j := 1) rfl
  have t2 := HR.out.tid.cell (j := 2) rfl
  simp only [mvI, mvT] at p4 x0 x1 x2 x3 x4 t0 t1 t2
  have l17 := HR.out.tid.lt
  have l18 := HR.out.pl.lt
  have l19 := HR.out.it.lt
  clear hb1 hb12 hs1 hci hcn hm1 hln hsz1
  go_wp2_with fail
  rw [← hw1]
  rw [← hw2]
  clear hw1 hw2 p4 x0 x1 x2 x3 x4 t0 t1 t2 l17 l18 l19
  refine HC1.out.mono ?_
  rintro e w3 ⟨rfl, h3⟩
  have HR3 := Lib.hid h3
  have HC2 := Lib.hid (rd_no h3 HS1.out (mvO (hop + 1) ((b : Int) + 1)) lay0 ⟨items_nil _ _, nums_nil _ _, fun _ => rfl, fun _ => rfl⟩ HZ1.out (by omega) ⟨Nat.zero_le _, Nat.zero_le _⟩ HM2.out)
  clear h3 HC1 HR2
  go_wp2_with fail
  refine HC2.out.mono ?_
  rintro e w4 ⟨rfl, h4⟩
  have HR4 := Lib.hid h4
  have HC3 := Lib.hid (rd_ok h4 HS1.out (mvD ((K : Int) + 1)) lay0 ⟨items_nil _ _, nums_nil _ _, fun _ => rfl, fun _ => rfl⟩ HZ1.out (by omega) ⟨Nat.zero_le _, Nat.zero_le _⟩ HM3.out.1 rfl)
  rw [List.set_set] at HC3
  have t0 := h4.tid.cell (j := 0) rfl
  have t1 := h4.tid.cell (j := 1) rfl
  have t2 := h4.tid.cell (j := 2) rfl
  simp only [mvT] at t0 t1 t2
  clear h4 HC2 HR3
  go_wp2_with fail
  clear t0 t1 t2
  refine HC3.out.mono ?_
  rintro e w5 ⟨rfl, h5⟩
  have HR5 := Lib.hid h5
  clear h5 HC3 HR4
  go_wp2_with fail
  exact HQ.out _ _ _ _ _ _ _ _ _ _ _ _ _ _ _ _ _ _ _ _ _ _ _ _ _ _ _ _ _ _ _ _ _ _ _ HR5
end Go.Proofs.Ytakeldpmfbahnaa.LedgerMoves

namespace Go.Proofs.Ytakeldpmfbahnaa.LedgerMoves
set_option maxRecDepth 100000
open Go.ChangeShapes Go.WideShapes Go.ChangeAt Go.RowKit Go.Deep Go.Proofs.Ytakeldpmfbahnaa.Mem Go.Proofs.Ytakeldpmfbahnaa.Item Go.Proofs.Ytakeldpmfbahnaa.Rec Go.Proofs.Ytakeldpmfbahnaa.Led

set_option maxHeartbeats 4000000 in
/-- The cell leaves: its node owns it no more. -/
theorem p28 {W wr : World} {b6 g c b17 b18 b19 n a b K : Nat} {L : List St} {s : St} {u : Tid} {qp : Pl} {xi : It} {h0 tt ver val : Int} (HR : Hid (Rd W wr b6 g c b17 b18 b19 L u qp xi)) (HS : Hid (L[a]? = some s)) (HND : Hid (Nd n a K s ⟨1, h0, tt, ver, val⟩)) (hn : n ≤ 16) (hb : b < n) (hab : b ≠ a) (hK : K ≤ 41) (hhop : 0 ≤ h0 ∧ h0 ≤ 100)
    {cc : Code} (hc : cc = sub [1, 1, 1, 1, 1, 1, 1, 1, 0, 1, 0, 0, 1, 1, 0, 0, 1, 1, 1, 1, 1, 1, 1, 1, 1, 0, 0] ((Try.f5.body).getD .skip)) {s0 s1 s2 s3 s4 s5 s7 s8 s9 s12 s13 s14 s15 s17 s18 s19 s20 s21 s22 s23 s24 s25 s26 s27 s28 s29 s30 s31 s32 s33 s34 s35 s36 s37 s38 s39 s40 s41 s42 s43 s44 s45 s46 s47 s48 s49 s50 s51 s52 s53 s54 s55 s56 s57 s58 s59 s60 s61 s62 s63 s64 s65 s66 s67 s68 s69 s70 s71 s72 s73 s74 s75 s76 s77 s78 s79 s80 s81 s82 s83 s84 s85 s86 s87 s88 s89 s90 s91 s92 s93 s94 s95 s96 s97 s98 s99 s100 s101 s102 s103 s104 s105 s106 s107 s108 s109 s110 s111 s112 s113 s114 s115 s116 s117 s118 s119 s120 s121 s122 s123 s124 s125 s126 s127 s128 s129 s130 s131 s132 s133 s134 s135 s136 s137 s138 s139 s140 s141 s142 s143 s144 s145 s146 s147 s148 s149 s150 s151 s152 s153 s154 s155 s156 s157 s158 s159 s160 s161 s162 s163 s164 s165 s166 s167 s168 s169 s170 s171 s172 s173 s174 s175 s176 s177 s178 s179 s180 s181 s182 s183 s184 s185 s186 s187 s188 s189 s190 s191 s192 s193 s194 s195 s196 s197 s198 s199 s200 s201 s202 s203 s204 s205 s206 s207 s208 s209 s210 s211 s212 s213 s214 s215 s216 s217 s218 s219 s220 s221 s222 s223 s224 s225 s226 : Value} (h13 : s13 = .func (.func 15) #[] #[.pointer (some ⟨b6, 0, none⟩)]) {Q : Exit → Act → World → Prop}
    (hQ : ∀ (u119 u120 u121 u122 u123 u124 u125 u126 u127 u128 u129 u130 u131 u132 : Value) (w' : World), Hid (Rd W w' b6 g c b17 b18 b19 (L.set a (setPl s 0 ⟨2, h0 + 1, (b : Int) + 1, ver, val⟩)) u qp xi) → Q .normal { tmps := List.toArray (s0::s1::s2::s3::s4::s5::.pointer (some ⟨b6, 0, none⟩)::s7::s8::s9::.int .i64 (a : Int)::.int .i64 (h0 + 1)::s12::s13::s14::s15::.int .i64 (b : Int)::s17::s18::s19::s20::s21::s22::s23::s24::s25::s26::s27::s28::s29::s30::s31::s32::s33::s34::s35::s36::s37::s38::s39::s40::s41::s42::s43::s44::s45::s46::s47::s48::s49::s50::s51::s52::s53::s54::s55::s56::s57::s58::s59::s60::s61::s62::s63::s64::s65::s66::s67::s68::s69::s70::s71::s72::s73::s74::s75::s76::s77::s78::s79::s80::s81::s82::s83::s84::s85::s86::s87::s88::s89::s90::s91::s92::s93::s94::s95::s96::s97::s98::s99::s100::s101::s102::s103::s104::s105::s106::s107::s108::s109::s110::s111::s112::s113::s114::s115::s116::s117::s118::u119::u120::u121::u122::u123::u124::u125::u126::u127::u128::u129::u130::u131::u132::.bool false::s134::s135::s136::s137::s138::s139::s140::s141::s142::s143::s144::s145::s146::s147::s148::s149::s150::s151::s152::s153::s154::s155::s156::s157::s158::s159::s160::s161::s162::s163::s164::s165::s166::s167::s168::s169::s170::s171::s172::s173::s174::s175::s176::s177::s178::s179::s180::s181::s182::s183::s184::s185::s186::s187::s188::s189::s190::s191::s192::s193::s194::s195::s196::s197::s198::s199::s200::s201::s202::s203::s204::s205::s206::s207::s208::s209::s210::s211::s212::s213::s214::s215::s216::s217::s218::s219::s220::s221::s222::s223::s224::s225::s226::[]), defers := [] } w') :
    Code.wp Try.prog cc Q { tmps := List.toArray (s0::s1::s2::s3::s4::s5::.pointer (some ⟨b6, 0, none⟩)::s7::s8::s9::.int .i64 (a : Int)::.int .i64 (h0 + 1)::s12::s13::s14::s15::.int .i64 (b : Int)::s17::s18::s19::s20::s21::s22::s23::s24::s25::s26::s27::s28::s29::s30::s31::s32::s33::s34::s35::s36::s37::s38::s39::s40::s41::s42::s43::s44::s45::s46::s47::s48::s49::s50::s51::s52::s53::s54::s55::s56::s57::s58::s59::s60::s61::s62::s63::s64::s65::s66::s67::s68::s69::s70::s71::s72::s73::s74::s75::s76::s77::s78::s79::s80::s81::s82::s83::s84::s85::s86::s87::s88::s89::s90::s91::s92::s93::s94::s95::s96::s97::s98::s99::s100::s101::s102::s103::s104::s105::s106::s107::s108::s109::s110::s111::s112::s113::s114::s115::s116::s117::s118::s119::s120::s121::s122::s123::s124::s125::s126::s127::s128::s129::s130::s131::s132::s133::s134::s135::s136::s137::s138::s139::s140::s141::s142::s143::s144::s145::s146::s147::s148::s149::s150::s151::s152::s153::s154::s155::s156::s157::s158::s159::s160::s161::s162::s163::s164::s165::s166::s167::s168::s169::s170::s171::s172::s173::s174::s175::s176::s177::s178::s179::s180::s181::s182::s183::s184::s185::s186::s187::s188::s189::s190::s191::s192::s193::s194::s195::s196::s197::s198::s199::s200::s201::s202::s203::s204::s205::s206::s207::s208::s209::s210::s211::s212::s213::s214::s215::s216::s217::s218::s219::s220::s221::s222::s223::s224::s225::s226::[]), defers := [] } wr := by
  have HQ := Lib.hid hQ
  clear hQ
  conv at hc => rhs; whnf
  subst hc
  subst h13
  have hm := mv_out HND.out rfl (b := b) ⟨hhop.1, by show h0 < 1000; omega⟩ hb hn hab
  have HC := Lib.hid (rd_ok HR.out HS.out (mvO (h0 + 1) ((b : Int) + 1)) lay0 ⟨items_nil _ _, nums_nil _ _, fun _ => rfl, fun _ => rfl⟩ (HND.out.sz HND.out.com) (by omega) ⟨Nat.zero_le _, Nat.zero_le _⟩ (by rw [hm]) (by rw [hm]))
  have hln : a < L.length := (List.getElem?_eq_some_iff.1 HS.out).1
  have HS3 : Hid ((L.set a (setPl s 0 ⟨2, h0 + 1, (b : Int) + 1, ver, val⟩))[a]? = some (setPl s 0 ⟨2, h0 + 1, (b : Int) + 1, ver, val⟩)) := Lib.hid (by rw [List.getElem?_set_self hln])
  have HN3 := Lib.hid (HND.out.setPl ⟨2, h0 + 1, (b : Int) + 1, ver, val⟩)
  clear hm hln
  go_wp2_with fail
  refine HC.out.mono ?_
  rintro e w3 ⟨rfl, h3⟩
  have HR3 := Lib.hid h3
  clear h3 HC
  obtain ⟨ys, hys⟩ := HR3.out.sts
  have hla : a < (L.set a (setPl s 0 ⟨2, h0 + 1, (b : Int) + 1, ver, val⟩)).length := (List.getElem?_eq_some_iff.1 HS3.out).1
  have hla2 : a < ys.length := by rw [hys.len]; exact hla
  have hrow := hys.at_ hla hla2
  have hee := (List.getElem?_eq_some_iff.1 HS3.out).2
  have hse := hys.see a hla hla2 _ (Only.refl _ _)
  rw [hee] at hrow hse
  obtain ⟨yy, hyy⟩ : ∃ x, ys[a] = x := ⟨_, rfl⟩
  rw [hyy] at hrow hse
  have hv := hys.var.cell (j := 0) rfl
  have HOW := Lib.hid (Owns_any (setPl s 0 ⟨2, h0 + 1, (b : Int) + 1, ver, val⟩) yy 0 _ hse)
  rw [HN3.out.owns] at HOW
  obtain ⟨sx, hsx⟩ : ∃ x, (setPl s 0 ⟨2, h0 + 1, (b : Int) + 1, ver, val⟩) = x := ⟨_, rfl⟩
  rw [hsx] at hrow HOW
  unfold St.val at HOW
  unfold St.vals at hrow
  obtain ⟨nn, hnn⟩ : ∃ x, (L.set a (setPl s 0 ⟨2, h0 + 1, (b : Int) + 1, ver, val⟩)).length = x := ⟨_, rfl⟩
  rw [hnn] at hv hla
  have r0 := hrow 0 _ rfl
  have r1 := hrow 1 _ rfl
  have r2 := hrow 2 _ rfl
  have r3 := hrow 3 _ rfl
  have r4 := hrow 4 _ rfl
  have r5 := hrow 5 _ rfl
  have r6 := hrow 6 _ rfl
  have r7 := hrow 7 _ rfl
  simp only [Nat.add_zero] at r0
  clear hys hla2 hee hse hyy hsx hnn hrow
  go_wp2_with fail
  clear hv r0 r1 r2 r3 r4 r5 r6 r7
  refine HOW.out.mono ?_
  rintro e w4 ⟨rfl, hb4⟩
  have HR4 := Lib.hid (HR3.out.later hb4)
  clear HOW hb4 HR3
  go_wp2_with fail
  exact HQ.out _ _ _ _ _ _ _ _ _ _ _ _ _ _ _ HR4
end Go.Proofs.Ytakeldpmfbahnaa.LedgerMoves

namespace Go.Proofs.Ytakeldpmfbahnaa.LedgerMoves
set_option maxRecDepth 100000
open Go.ChangeShapes Go.WideShapes Go.ChangeAt Go.RowKit Go.Deep Go.Proofs.Ytakeldpmfbahnaa.Mem Go.Proofs.Ytakeldpmfbahnaa.Item Go.Proofs.Ytakeldpmfbahnaa.Rec Go.Proofs.Ytakeldpmfbahnaa.Led

set_option maxHeartbeats 4000000 in
/-- The cell comes, once. -/
theorem p31 {W wr : World} {b6 g c b17 b18 b19 n b K : Nat} {L : List St} {s : St} {u : Tid} {xi : It} {qb : Pl} {hop ver val ps ph pt : Int} (HR : Hid (Rd W wr b6 g c b17 b18 b19 L u ⟨ps, ph, pt, ver, val⟩ xi)) (HS : Hid (L[b]? = some s)) (HND : Hid (Nd n b K s qb)) (hq1 : qb.status ≠ 1) (hq2 : qb.hop < hop) (hK : K ≤ 41) (hhop : 1 ≤ hop ∧ hop ≤ 100) (hver : 0 ≤ ver ∧ ver ≤ 100) (hval : 0 ≤ val ∧ val ≤ 100)
    {cc : Code} (hc : cc = sub [1, 1, 1, 1, 1, 1, 1, 1, 0, 1, 0, 0, 1, 1, 0, 0, 1, 1, 1, 1, 1, 1, 1, 1, 1, 1, 1, 0, 0] ((Try.f5.body).getD .skip)) {s0 s1 s2 s3 s4 s5 s6 s7 s8 s9 s10 s12 s13 s14 s15 s17 s19 s20 s21 s22 s23 s24 s25 s26 s27 s28 s29 s30 s31 s32 s33 s34 s35 s36 s37 s38 s39 s40 s41 s42 s43 s44 s45 s46 s47 s48 s49 s50 s51 s52 s53 s54 s55 s56 s57 s58 s59 s60 s61 s62 s63 s64 s65 s66 s67 s68 s69 s70 s71 s72 s73 s74 s75 s76 s77 s78 s79 s80 s81 s82 s83 s84 s85 s86 s87 s88 s89 s90 s91 s92 s93 s94 s95 s96 s97 s98 s99 s100 s101 s102 s103 s104 s105 s106 s107 s108 s109 s110 s111 s112 s113 s114 s115 s116 s117 s118 s119 s120 s121 s122 s123 s124 s125 s126 s127 s128 s129 s130 s131 s132 s133 s134 s135 s136 s137 s138 s139 s140 s141 s142 s143 s144 s145 s146 s147 s148 s149 s150 s151 s152 s153 s154 s155 s156 s157 s158 s159 s160 s161 s162 s163 s164 s165 s166 s167 s168 s169 s170 s171 s172 s173 s174 s175 s176 s177 s178 s179 s180 s181 s182 s183 s184 s185 s186 s187 s188 s189 s190 s191 s192 s193 s194 s195 s196 s197 s198 s199 s200 s201 s202 s203 s204 s205 s206 s207 s208 s209 s210 s211 s212 s213 s214 s215 s216 s217 s218 s219 s220 s221 s222 s223 s224 s225 s226 : Value} (h13 : s13 = .func (.func 15) #[] #[.pointer (some ⟨b6, 0, none⟩)]) {Q : Exit → Act → World → Prop}
    (hQ : ∀ (u141 u142 u143 u144 u145 u146 u147 u148 u149 u150 u151 u152 u153 u154 u155 u156 u157 u158 : Value) (w' : World), Hid (Rd W w' b6 g c b17 b18 b19 (L.set b (setPl s 0 ⟨1, hop, 0, ver, val⟩)) u ⟨ps, ph, pt, ver, val⟩ xi) → Q .normal { tmps := List.toArray (s0::s1::s2::s3::s4::s5::s6::s7::s8::s9::s10::.int .i64 hop::s12::s13::s14::s15::.int .i64 (b : Int)::s17::.pointer (some ⟨b18, 0, none⟩)::s19::s20::s21::s22::s23::s24::s25::s26::s27::s28::s29::s30::s31::s32::s33::s34::s35::s36::s37::s38::s39::s40::s41::s42::s43::s44::s45::s46::s47::s48::s49::s50::s51::s52::s53::s54::s55::s56::s57::s58::s59::s60::s61::s62::s63::s64::s65::s66::s67::s68::s69::s70::s71::s72::s73::s74::s75::s76::s77::s78::s79::s80::s81::s82::s83::s84::s85::s86::s87::s88::s89::s90::s91::s92::s93::s94::s95::s96::s97::s98::s99::s100::s101::s102::s103::s104::s105::s106::s107::s108::s109::s110::s111::s112::s113::s114::s115::s116::s117::s118::s119::s120::s121::s122::s123::s124::s125::s126::s127::s128::s129::s130::s131::s132::s133::s134::s135::s136::s137::s138::s139::s140::u141::u142::u143::u144::u145::u146::u147::u148::u149::u150::u151::u152::u153::u154::u155::u156::u157::u158::.bool false::s160::s161::s162::s163::s164::s165::s166::s167::s168::s169::s170::s171::s172::s173::s174::s175::s176::s177::s178::s179::s180::s181::s182::s183::s184::s185::s186::s187::s188::s189::s190::s191::s192::s193::s194::s195::s196::s197::s198::s199::s200::s201::s202::s203::s204::s205::s206::s207::s208::s209::s210::s211::s212::s213::s214::s215::s216::s217::s218::s219::s220::s221::s222::s223::s224::s225::s226::[]), defers := [] } w') :
    Code.wp Try.prog cc Q { tmps := List.toArray (s0::s1::s2::s3::s4::s5::s6::s7::s8::s9::s10::.int .i64 hop::s12::s13::s14::s15::.int .i64 (b : Int)::s17::.pointer (some ⟨b18, 0, none⟩)::s19::s20::s21::s22::s23::s24::s25::s26::s27::s28::s29::s30::s31::s32::s33::s34::s35::s36::s37::s38::s39::s40::s41::s42::s43::s44::s45::s46::s47::s48::s49::s50::s51::s52::s53::s54::s55::s56::s57::s58::s59::s60::s61::s62::s63::s64::s65::s66::s67::s68::s69::s70::s71::s72::s73::s74::s75::s76::s77::s78::s79::s80::s81::s82::s83::s84::s85::s86::s87::s88::s89::s90::s91::s92::s93::s94::s95::s96::s97::s98::s99::s100::s101::s102::s103::s104::s105::s106::s107::s108::s109::s110::s111::s112::s113::s114::s115::s116::s117::s118::s119::s120::s121::s122::s123::s124::s125::s126::s127::s128::s129::s130::s131::s132::s133::s134::s135::s136::s137::s138::s139::s140::s141::s142::s143::s144::s145::s146::s147::s148::s149::s150::s151::s152::s153::s154::s155::s156::s157::s158::s159::s160::s161::s162::s163::s164::s165::s166::s167::s168::s169::s170::s171::s172::s173::s174::s175::s176::s177::s178::s179::s180::s181::s182::s183::s184::s185::s186::s187::s188::s189::s190::s191::s192::s193::s194::s195::s196::s197::s198::s199::s200::s201::s202::s203::s204::s205::s206::s207::s208::s209::s210::s211::s212::s213::s214::s215::s216::s217::s218::s219::s220::s221::s222::s223::s224::s225::s226::[]), defers := [] } wr := by
  have HQ := Lib.hid hQ
  clear hQ
  conv at hc => rhs; whnf
  subst hc
  subst h13
  have hm := mv_in HND.out hq1 (hop := hop) (ver := ver) (val := val) ⟨hhop.1, by omega⟩ ⟨hver.1, by omega⟩ ⟨by omega, by omega⟩ hq2
  have HC := Lib.hid (rd_ok HR.out HS.out (mvN hop ver val) lay0 ⟨items_nil _ _, nums_nil _ _, fun _ => rfl, fun _ => rfl⟩ (HND.out.sz HND.out.com) (by omega) ⟨Nat.zero_le _, Nat.zero_le _⟩ (by rw [hm]) (by rw [hm]))
  have hln : b < L.length := (List.getElem?_eq_some_iff.1 HS.out).1
  have HS3 : Hid ((L.set b (setPl s 0 ⟨1, hop, 0, ver, val⟩))[b]? = some (setPl s 0 ⟨1, hop, 0, ver, val⟩)) := Lib.hid (by rw [List.getElem?_set_self hln])
  have HN3 := Lib.hid (HND.out.setPl ⟨1, hop, 0, ver, val⟩)
  have HM2 := Lib.hid (mv_in2 HN3.out rfl (hop := hop) (ver := ver) (val := 0) ⟨hhop.1, by omega⟩ ⟨hver.1, by omega⟩ ⟨by decide, by decide⟩)
  have p3 := HR.out.pl.cell (j := 3) rfl
  have p4 := HR.out.pl.cell (j := 4) rfl
  clear hm hln
  go_wp2_with fail
  clear p3 p4
  refine HC.out.mono ?_
  rintro e w3 ⟨rfl, h3⟩
  have HR3 := Lib.hid h3
  have HC2 := Lib.hid (rd_no h3 HS3.out (mvN hop ver 0) lay0 ⟨items_nil _ _, nums_nil _ _, fun _ => rfl, fun _ => rfl⟩ (HN3.out.sz HN3.out.com) (by omega) ⟨Nat.zero_le _, Nat.zero_le _⟩ HM2.out)
  have p3 := h3.pl.cell (j := 3) rfl
  clear h3 HC
  go_wp2_with fail
  clear p3
  refine HC2.out.mono ?_
  rintro e w4 ⟨rfl, h4⟩
  have HR4 := Lib.hid h4
  clear h4 HC2 HR3
  go_wp2_with fail
  exact HQ.out _ _ _ _ _ _ _ _ _ _ _ _ _ _ _ _ _ _ _ HR4
end Go.Proofs.Ytakeldpmfbahnaa.LedgerMoves

namespace Go.Proofs.Ytakeldpmfbahnaa.LedgerMoves
set_option maxRecDepth 100000
open Go.ChangeShapes Go.WideShapes Go.ChangeAt Go.RowKit Go.Deep Go.Proofs.Ytakeldpmfbahnaa.Mem Go.Proofs.Ytakeldpmfbahnaa.Item Go.Proofs.Ytakeldpmfbahnaa.Rec Go.Proofs.Ytakeldpmfbahnaa.Led

set_option maxHeartbeats 4000000 in
/-- It is gone, mostly. -/
theorem p33 {W wr : World} {b6 g c b17 b18 b19 n a K : Nat} {L : List St} {s : St} {u : Tid} {qp : Pl} {xi : It} {k : Nat} {hop tt ver val : Int} (HR : Hid (Rd W wr b6 g c b17 b18 b19 L u qp xi)) (HS : Hid (L[a]? = some s)) (HND : Hid (Nd n a K s ⟨2, hop, tt, ver, val⟩)) (hK : K ≤ 41) (hhop : 1 ≤ hop ∧ hop ≤ 100) (hk : k ≤ 40)
    {cc : Code} (hc : cc = sub [1, 1, 1, 1, 1, 1, 1, 1, 0, 1, 0, 0, 1, 1, 0, 0, 1, 1, 1, 1, 1, 1, 1, 1, 1, 1, 1, 1, 0, 0] ((Try.f5.body).getD .skip)) {s0 s1 s2 s3 s4 s5 s6 s7 s8 s9 s12 s13 s15 s16 s17 s18 s19 s20 s21 s22 s23 s24 s25 s26 s27 s28 s29 s30 s31 s32 s33 s34 s35 s36 s37 s38 s39 s40 s41 s42 s43 s44 s45 s46 s47 s48 s49 s50 s51 s52 s53 s54 s55 s56 s57 s58 s59 s60 s61 s62 s63 s64 s65 s66 s67 s68 s69 s70 s71 s72 s73 s74 s75 s76 s77 s78 s79 s80 s81 s82 s83 s84 s85 s86 s87 s88 s89 s90 s91 s92 s93 s94 s95 s96 s97 s98 s99 s100 s101 s102 s103 s104 s105 s106 s107 s108 s109 s110 s111 s112 s113 s114 s115 s116 s117 s118 s119 s120 s121 s122 s123 s124 s125 s126 s127 s128 s129 s130 s131 s132 s133 s134 s135 s136 s137 s138 s139 s140 s141 s142 s143 s144 s145 s146 s147 s148 s149 s150 s151 s152 s153 s154 s155 s156 s157 s158 s159 s160 s161 s162 s163 s164 s165 s166 s167 s168 s169 s170 s171 s172 s173 s174 s175 s176 s177 s178 s179 s180 s181 s182 s183 s184 s185 s186 s187 s188 s189 s190 s191 s192 s193 s194 s195 s196 s197 s198 s199 s200 s201 s202 s203 s204 s205 s206 s207 s208 s209 s210 s211 s212 s213 s214 s215 s216 s217 s218 s219 s220 s221 s222 s223 s224 s225 s226 : Value} (h13 : s13 = .func (.func 15) #[] #[.pointer (some ⟨b6, 0, none⟩)]) {Q : Exit → Act → World → Prop}
    (hQ : ∀ (u160 u161 u162 u163 u164 u165 u166 u167 u168 u169 u170 u171 u172 u173 u174 u175 u176 : Value) (w' : World), (∃ sa qa, Nd n a K sa qa ∧ qa.status ≠ 1 ∧ qa.hop = hop ∧ Hid (Rd W w' b6 g c b17 b18 b19 (L.set a sa) u qp xi)) → Q .normal { tmps := List.toArray (s0::s1::s2::s3::s4::s5::s6::s7::s8::s9::.int .i64 (a : Int)::.int .i64 hop::s12::s13::.int .i64 (k : Int)::s15::s16::s17::s18::s19::s20::s21::s22::s23::s24::s25::s26::s27::s28::s29::s30::s31::s32::s33::s34::s35::s36::s37::s38::s39::s40::s41::s42::s43::s44::s45::s46::s47::s48::s49::s50::s51::s52::s53::s54::s55::s56::s57::s58::s59::s60::s61::s62::s63::s64::s65::s66::s67::s68::s69::s70::s71::s72::s73::s74::s75::s76::s77::s78::s79::s80::s81::s82::s83::s84::s85::s86::s87::s88::s89::s90::s91::s92::s93::s94::s95::s96::s97::s98::s99::s100::s101::s102::s103::s104::s105::s106::s107::s108::s109::s110::s111::s112::s113::s114::s115::s116::s117::s118::s119::s120::s121::s122::s123::s124::s125::s126::s127::s128::s129::s130::s131::s132::s133::s134::s135::s136::s137::s138::s139::s140::s141::s142::s143::s144::s145::s146::s147::s148::s149::s150::s151::s152::s153::s154::s155::s156::s157::s158::s159::u160::u161::u162::u163::u164::u165::u166::u167::u168::u169::u170::u171::u172::u173::u174::u175::u176::.bool false::s178::s179::s180::s181::s182::s183::s184::s185::s186::s187::s188::s189::s190::s191::s192::s193::s194::s195::s196::s197::s198::s199::s200::s201::s202::s203::s204::s205::s206::s207::s208::s209::s210::s211::s212::s213::s214::s215::s216::s217::s218::s219::s220::s221::s222::s223::s224::s225::s226::[]), defers := [] } w') :
    Code.wp Try.prog cc Q { tmps := List.toArray (s0::s1::s2::s3::s4::s5::s6::s7::s8::s9::.int .i64 (a : Int)::.int .i64 hop::s12::s13::.int .i64 (k : Int)::s15::s16::s17::s18::s19::s20::s21::s22::s23::s24::s25::s26::s27::s28::s29::s30::s31::s32::s33::s34::s35::s36::s37::s38::s39::s40::s41::s42::s43::s44::s45::s46::s47::s48::s49::s50::s51::s52::s53::s54::s55::s56::s57::s58::s59::s60::s61::s62::s63::s64::s65::s66::s67::s68::s69::s70::s71::s72::s73::s74::s75::s76::s77::s78::s79::s80::s81::s82::s83::s84::s85::s86::s87::s88::s89::s90::s91::s92::s93::s94::s95::s96::s97::s98::s99::s100::s101::s102::s103::s104::s105::s106::s107::s108::s109::s110::s111::s112::s113::s114::s115::s116::s117::s118::s119::s120::s121::s122::s123::s124::s125::s126::s127::s128::s129::s130::s131::s132::s133::s134::s135::s136::s137::s138::s139::s140::s141::s142::s143::s144::s145::s146::s147::s148::s149::s150::s151::s152::s153::s154::s155::s156::s157::s158::s159::s160::s161::s162::s163::s164::s165::s166::s167::s168::s169::s170::s171::s172::s173::s174::s175::s176::s177::s178::s179::s180::s181::s182::s183::s184::s185::s186::s187::s188::s189::s190::s191::s192::s193::s194::s195::s196::s197::s198::s199::s200::s201::s202::s203::s204::s205::s206::s207::s208::s209::s210::s211::s212::s213::s214::s215::s216::s217::s218::s219::s220::s221::s222::s223::s224::s225::s226::[]), defers := [] } wr := by
  have HQ := Lib.hid hQ
  clear hQ
  conv at hc => rhs; whnf
  subst hc
  subst h13
  by_cases h3 : k % 3 = 0
  · have h0 : IntKind.i64.wrap (Int.tmod (k : Int) 3) = 0 := by
      rw [Int.tmod_eq_emod_of_nonneg (by omega)]
      rw [IntWalk.i64_in _ (by omega)]
      omega
    have h01 : Int.tmod (k : Int) 3 = 0 := by rw [Int.tmod_eq_emod_of_nonneg (by omega)]; omega
    have hln := (List.getElem?_eq_some_iff.1 HS.out)
    obtain ⟨hln, hee⟩ := hln
    have hse : L.set a s = L := by rw [← hee]; exact List.set_getElem_self hln
    have HR9 : Hid (Rd W wr b6 g c b17 b18 b19 (L.set a s) u qp xi) := Lib.hid (by rw [hse]; exact HR.out)
    clear hln hee hse
    go_wp2_with fail
    exact HQ.out _ _ _ _ _ _ _ _ _ _ _ _ _ _ _ _ _ _ ⟨s, _, HND.out, (by show ¬ ((2 : Int) = 1); decide), rfl, HR9⟩
  · have h0 : 0 < Int.tmod (k : Int) 3 := by rw [Int.tmod_eq_emod_of_nonneg (by omega)]; omega
    have hm := mv_gone HND.out rfl ⟨by show 1 ≤ hop; omega, by show hop ≤ 1000; omega⟩
    have HC := Lib.hid (rd_ok HR.out HS.out (mvG hop) lay0 ⟨items_nil _ _, nums_nil _ _, fun _ => rfl, fun _ => rfl⟩ (HND.out.sz HND.out.com) (by omega) ⟨Nat.zero_le _, Nat.zero_le _⟩ (by rw [hm]) (by rw [hm]))
    have hln : a < L.length := (List.getElem?_eq_some_iff.1 HS.out).1
    have HS3 : Hid ((L.set a (setPl s 0 ⟨0, hop, 0, 0, 0⟩))[a]? = some (setPl s 0 ⟨0, hop, 0, 0, 0⟩)) := Lib.hid (by rw [List.getElem?_set_self hln])
    have HN3 := Lib.hid (HND.out.setPl ⟨0, hop, 0, 0, 0⟩)
    have HM2 := Lib.hid (mv_gone2 HN3.out rfl (hop := hop) ⟨by omega, by omega⟩)
    clear hm hln
    go_wp2_with fail
    refine HC.out.mono ?_
    rintro e w3 ⟨rfl, h3⟩
    have HR3 := Lib.hid h3
    have HC2 := Lib.hid (rd_no h3 HS3.out (mvG hop) lay0 ⟨items_nil _ _, nums_nil _ _, fun _ => rfl, fun _ => rfl⟩ (HN3.out.sz HN3.out.com) (by omega) ⟨Nat.zero_le _, Nat.zero_le _⟩ HM2.out)
    clear h3 HC
    go_wp2_with fail
    refine HC2.out.mono ?_
    rintro e w4 ⟨rfl, h4⟩
    have HR4 := Lib.hid h4
    clear h4 HC2 HR3
    go_wp2_with fail
    exact HQ.out _ _ _ _ _ _ _ _ _ _ _ _ _ _ _ _ _ _ ⟨_, _, HN3.out, (by show ¬ ((0 : Int) = 1); decide), rfl, HR4⟩
end Go.Proofs.Ytakeldpmfbahnaa.LedgerMoves

namespace Go.Proofs.Ytakeldpmfbahnaa.LedgerMoves
set_option maxRecDepth 100000
open Go.ChangeShapes Go.WideShapes Go.ChangeAt Go.RowKit Go.Deep Go.Proofs.Ytakeldpmfbahnaa.Mem Go.Proofs.Ytakeldpmfbahnaa.Item Go.Proofs.Ytakeldpmfbahnaa.Rec Go.Proofs.Ytakeldpmfbahnaa.Led

set_option maxHeartbeats 4000000 in
/-- What is sent along. -/
theorem p30 {W wr : World} {b6 g c b17 b18 b19 n a K : Nat} {L : List St} {s : St} {u : Tid} {qp : Pl} {xi : It} {q : Pl} (HR : Hid (Rd W wr b6 g c b17 b18 b19 L u qp xi)) (HS : Hid (L[a]? = some s)) (HND : Hid (Nd n a K s q))
    {cc : Code} (hc : cc = sub [1, 1, 1, 1, 1, 1, 1, 1, 0, 1, 0, 0, 1, 1, 0, 0, 1, 1, 1, 1, 1, 1, 1, 1, 1, 1, 0] ((Try.f5.body).getD .skip)) {s0 s1 s2 s3 s4 s5 s7 s8 s9 s11 s12 s13 s14 s15 s16 s17 s19 s20 s21 s22 s23 s24 s25 s26 s27 s28 s29 s30 s31 s32 s33 s34 s35 s36 s37 s38 s39 s40 s41 s42 s43 s44 s45 s46 s47 s48 s49 s50 s51 s52 s53 s54 s55 s56 s57 s58 s59 s60 s61 s62 s63 s64 s65 s66 s67 s68 s69 s70 s71 s72 s73 s74 s75 s76 s77 s78 s79 s80 s81 s82 s83 s84 s85 s86 s87 s88 s89 s90 s91 s92 s93 s94 s95 s96 s97 s98 s99 s100 s101 s102 s103 s104 s105 s106 s107 s108 s109 s110 s111 s112 s113 s114 s115 s116 s117 s118 s119 s120 s121 s122 s123 s124 s125 s126 s127 s128 s129 s130 s131 s132 s133 s134 s135 s136 s137 s138 s139 s140 s141 s142 s143 s144 s145 s146 s147 s148 s149 s150 s151 s152 s153 s154 s155 s156 s157 s158 s159 s160 s161 s162 s163 s164 s165 s166 s167 s168 s169 s170 s171 s172 s173 s174 s175 s176 s177 s178 s179 s180 s181 s182 s183 s184 s185 s186 s187 s188 s189 s190 s191 s192 s193 s194 s195 s196 s197 s198 s199 s200 s201 s202 s203 s204 s205 s206 s207 s208 s209 s210 s211 s212 s213 s214 s215 s216 s217 s218 s219 s220 s221 s222 s223 s224 s225 s226 : Value} {Q : Exit → Act → World → Prop}
    (hQ : ∀ (u134 u135 u136 u137 u138 u139 u140 : Value) (w' : World), Hid (Rd W w' b6 g c b17 b18 b19 L u q xi) → Q .normal { tmps := List.toArray (s0::s1::s2::s3::s4::s5::.pointer (some ⟨b6, 0, none⟩)::s7::s8::s9::.int .i64 (a : Int)::s11::s12::s13::s14::s15::s16::s17::.pointer (some ⟨b18, 0, none⟩)::s19::s20::s21::s22::s23::s24::s25::s26::s27::s28::s29::s30::s31::s32::s33::s34::s35::s36::s37::s38::s39::s40::s41::s42::s43::s44::s45::s46::s47::s48::s49::s50::s51::s52::s53::s54::s55::s56::s57::s58::s59::s60::s61::s62::s63::s64::s65::s66::s67::s68::s69::s70::s71::s72::s73::s74::s75::s76::s77::s78::s79::s80::s81::s82::s83::s84::s85::s86::s87::s88::s89::s90::s91::s92::s93::s94::s95::s96::s97::s98::s99::s100::s101::s102::s103::s104::s105::s106::s107::s108::s109::s110::s111::s112::s113::s114::s115::s116::s117::s118::s119::s120::s121::s122::s123::s124::s125::s126::s127::s128::s129::s130::s131::s132::s133::u134::u135::u136::u137::u138::u139::u140::s141::s142::s143::s144::s145::s146::s147::s148::s149::s150::s151::s152::s153::s154::s155::s156::s157::s158::s159::s160::s161::s162::s163::s164::s165::s166::s167::s168::s169::s170::s171::s172::s173::s174::s175::s176::s177::s178::s179::s180::s181::s182::s183::s184::s185::s186::s187::s188::s189::s190::s191::s192::s193::s194::s195::s196::s197::s198::s199::s200::s201::s202::s203::s204::s205::s206::s207::s208::s209::s210::s211::s212::s213::s214::s215::s216::s217::s218::s219::s220::s221::s222::s223::s224::s225::s226::[]), defers := [] } w') :
    Code.wp Try.prog cc Q { tmps := List.toArray (s0::s1::s2::s3::s4::s5::.pointer (some ⟨b6, 0, none⟩)::s7::s8::s9::.int .i64 (a : Int)::s11::s12::s13::s14::s15::s16::s17::.pointer (some ⟨b18, 0, none⟩)::s19::s20::s21::s22::s23::s24::s25::s26::s27::s28::s29::s30::s31::s32::s33::s34::s35::s36::s37::s38::s39::s40::s41::s42::s43::s44::s45::s46::s47::s48::s49::s50::s51::s52::s53::s54::s55::s56::s57::s58::s59::s60::s61::s62::s63::s64::s65::s66::s67::s68::s69::s70::s71::s72::s73::s74::s75::s76::s77::s78::s79::s80::s81::s82::s83::s84::s85::s86::s87::s88::s89::s90::s91::s92::s93::s94::s95::s96::s97::s98::s99::s100::s101::s102::s103::s104::s105::s106::s107::s108::s109::s110::s111::s112::s113::s114::s115::s116::s117::s118::s119::s120::s121::s122::s123::s124::s125::s126::s127::s128::s129::s130::s131::s132::s133::s134::s135::s136::s137::s138::s139::s140::s141::s142::s143::s144::s145::s146::s147::s148::s149::s150::s151::s152::s153::s154::s155::s156::s157::s158::s159::s160::s161::s162::s163::s164::s165::s166::s167::s168::s169::s170::s171::s172::s173::s174::s175::s176::s177::s178::s179::s180::s181::s182::s183::s184::s185::s186::s187::s188::s189::s190::s191::s192::s193::s194::s195::s196::s197::s198::s199::s200::s201::s202::s203::s204::s205::s206::s207::s208::s209::s210::s211::s212::s213::s214::s215::s216::s217::s218::s219::s220::s221::s222::s223::s224::s225::s226::[]), defers := [] } wr := by
  have HQ := Lib.hid hQ
  clear hQ
  conv at hc => rhs; whnf
  subst hc
  obtain ⟨ys, hys⟩ := HR.out.sts
  have hla : a < L.length := (List.getElem?_eq_some_iff.1 HS.out).1
  have hla2 : a < ys.length := by rw [hys.len]; exact hla
  have hrow := hys.at_ hla hla2
  have hee := (List.getElem?_eq_some_iff.1 HS.out).2
  have hse := hys.see a hla hla2 _ (Only.refl _ _)
  rw [hee] at hrow hse
  obtain ⟨yy, hyy⟩ : ∃ x, ys[a] = x := ⟨_, rfl⟩
  rw [hyy] at hrow hse
  have hv := hys.var.cell (j := 0) rfl
  have hlp : 0 < s.places.length := by rw [HND.out.places]; exact Nat.one_pos
  obtain ⟨pb, po, hP, y0, y1, y2, y3, y4⟩ := place_cells hse.places hlp
  have hq : s.places[0] = q := by simp only [HND.out.places]; rfl
  rw [hq] at y0 y1 y2 y3 y4
  simp only [Nat.zero_mul, Nat.add_zero] at y0 y1 y2 y3 y4
  unfold St.vals at hrow
  have r4 := hrow 4 _ rfl
  rw [hP, HND.out.places] at r4
  obtain ⟨nn, hnn⟩ : ∃ x, L.length = x := ⟨_, rfl⟩
  rw [hnn] at hv hla
  have HR9 := HR
  have HYS := Lib.hid hys
  clear hla2 hee hyy hrow hP hq hlp hnn hse
  obtain ⟨hpt, hov⟩ := HR9.out.pl.put (l := q.vals) rfl
  have HR6 : Hid (Rd W (wr.setCells b18 0 q.vals) b6 g c b17 b18 b19 L u q xi) := Lib.hid ⟨HR9.out.low.trans (hov.below HR9.out.low.size fun j e => by rw [e]; exact HR9.out.xt.2.2.2), ⟨ys, cells_only HYS.out.var hov HR9.out.xt.1, cells_only HYS.out.row hov (fun e => HR9.out.ne.2.1 e.symm), HYS.out.len, fun i h1 h2 w2 h3 => HYS.out.see i h1 h2 w2 ((hov.mono fun k _ e => Or.inr (Or.inr e)).trans h3 fun _ _ e => e), HYS.out.ne, HYS.out.has⟩, cells_only HR9.out.tid hov HR9.out.xt.2.1, hpt, cells_only HR9.out.it hov HR9.out.xt.2.2.1, HR9.out.ne, HR9.out.gt, HR9.out.xt⟩
  have z0 := HR9.out.pl.cell (j := 0) rfl
  have z1 := HR9.out.pl.cell (j := 1) rfl
  have z2 := HR9.out.pl.cell (j := 2) rfl
  have z3 := HR9.out.pl.cell (j := 3) rfl
  have z4 := HR9.out.pl.cell (j := 4) rfl
  have f0 := HR9.out.pl.frozen (j := 0) (by show 0 < 5; decide)
  have f1 := HR9.out.pl.frozen (j := 1) (by show 1 < 5; decide)
  have f2 := HR9.out.pl.frozen (j := 2) (by show 2 < 5; decide)
  have f3 := HR9.out.pl.frozen (j := 3) (by show 3 < 5; decide)
  have f4 := HR9.out.pl.frozen (j := 4) (by show 4 < 5; decide)
  simp only [List.length_cons, List.length_nil] at r4
  clear hpt hov
  go_wp2_with fail
  exact HQ.out _ _ _ _ _ _ _ _ HR6
end Go.Proofs.Ytakeldpmfbahnaa.LedgerMoves

namespace Go.Proofs.Ytakeldpmfbahnaa.LedgerMoves
set_option maxRecDepth 100000
open Go.ChangeShapes Go.WideShapes Go.ChangeAt Go.RowKit Go.Deep Go.Proofs.Ytakeldpmfbahnaa.Mem Go.Proofs.Ytakeldpmfbahnaa.Item Go.Proofs.Ytakeldpmfbahnaa.Rec Go.Proofs.Ytakeldpmfbahnaa.Led

set_option maxHeartbeats 4000000 in
/-- One node owns it. -/
theorem p38 {W wr : World} {b6 g c b17 b18 b19 b nn : Nat} {L : List St} {u : Tid} {qp : Pl} {xi : It} (HR : Hid (Rd W wr b6 g c b17 b18 b19 L u qp xi)) (HN : Hid (L.length = nn)) (hb : b < nn) (hnn : nn ≤ 100) (HOW : Hid (∀ i (h : i < L.length), owns L[i] 0 = decide (i = b)))
    {cc : Code} (hc : cc = sub [1, 1, 1, 1, 1, 1, 1, 1, 0, 1, 0, 0, 1, 1, 0, 0, 1, 1, 1, 1, 1, 1, 1, 1, 1, 1, 1, 1, 1, 1, 1, 0, 1, 0] ((Try.f5.body).getD .skip)) {s0 s1 s2 s3 s4 s5 s7 s8 s9 s10 s11 s12 s13 s14 s15 s16 s17 s18 s19 s21 s22 s23 s24 s25 s26 s27 s28 s29 s30 s31 s32 s33 s34 s35 s36 s37 s38 s39 s40 s41 s42 s43 s44 s45 s46 s47 s48 s49 s50 s51 s52 s53 s54 s55 s56 s57 s58 s59 s60 s61 s62 s63 s64 s65 s66 s67 s68 s69 s70 s71 s72 s73 s74 s75 s76 s77 s78 s79 s80 s81 s82 s83 s84 s85 s86 s87 s88 s89 s90 s91 s92 s93 s94 s95 s96 s97 s98 s99 s100 s101 s102 s103 s104 s105 s106 s107 s108 s109 s110 s111 s112 s113 s114 s115 s116 s117 s118 s119 s120 s121 s122 s123 s124 s125 s126 s127 s128 s129 s130 s131 s132 s133 s134 s135 s136 s137 s138 s139 s140 s141 s142 s143 s144 s145 s146 s147 s148 s149 s150 s151 s152 s153 s154 s155 s156 s157 s158 s159 s160 s161 s162 s163 s164 s165 s166 s167 s168 s169 s170 s171 s172 s173 s174 s175 s176 s177 s178 s179 s182 s183 s184 s185 s186 s187 s188 s189 s190 s191 s192 s193 s194 s195 s196 s197 s198 s199 s200 s201 s202 s203 s204 s205 s206 s207 s208 s209 s210 s211 s212 s213 s214 s215 s216 s217 s218 s219 s220 s221 s222 s223 s224 s225 s226 : Value} {Q : Exit → Act → World → Prop}
    (hQ : ∀ (u21 u181 u182 u183 u184 u185 u186 u187 u188 u189 u190 u191 : Value) (w' : World), Hid (Rd W w' b6 g c b17 b18 b19 L u qp xi) → Q (.exit 4) { tmps := List.toArray (s0::s1::s2::s3::s4::s5::.pointer (some ⟨b6, 0, none⟩)::s7::s8::s9::s10::s11::s12::s13::s14::s15::s16::s17::s18::s19::.int .i64 1::u21::s22::s23::s24::s25::s26::s27::s28::s29::s30::s31::s32::s33::s34::s35::s36::s37::s38::s39::s40::s41::s42::s43::s44::s45::s46::s47::s48::s49::s50::s51::s52::s53::s54::s55::s56::s57::s58::s59::s60::s61::s62::s63::s64::s65::s66::s67::s68::s69::s70::s71::s72::s73::s74::s75::s76::s77::s78::s79::s80::s81::s82::s83::s84::s85::s86::s87::s88::s89::s90::s91::s92::s93::s94::s95::s96::s97::s98::s99::s100::s101::s102::s103::s104::s105::s106::s107::s108::s109::s110::s111::s112::s113::s114::s115::s116::s117::s118::s119::s120::s121::s122::s123::s124::s125::s126::s127::s128::s129::s130::s131::s132::s133::s134::s135::s136::s137::s138::s139::s140::s141::s142::s143::s144::s145::s146::s147::s148::s149::s150::s151::s152::s153::s154::s155::s156::s157::s158::s159::s160::s161::s162::s163::s164::s165::s166::s167::s168::s169::s170::s171::s172::s173::s174::s175::s176::s177::s178::s179::.int .i64 (nn : Int)::u181::u182::u183::u184::u185::u186::u187::u188::u189::u190::u191::s192::s193::s194::s195::s196::s197::s198::s199::s200::s201::s202::s203::s204::s205::s206::s207::s208::s209::s210::s211::s212::s213::s214::s215::s216::s217::s218::s219::s220::s221::s222::s223::s224::s225::s226::[]), defers := [] } w') :
    Code.wp Try.prog cc Q { tmps := List.toArray (s0::s1::s2::s3::s4::s5::.pointer (some ⟨b6, 0, none⟩)::s7::s8::s9::s10::s11::s12::s13::s14::s15::s16::s17::s18::s19::.int .i64 0::s21::s22::s23::s24::s25::s26::s27::s28::s29::s30::s31::s32::s33::s34::s35::s36::s37::s38::s39::s40::s41::s42::s43::s44::s45::s46::s47::s48::s49::s50::s51::s52::s53::s54::s55::s56::s57::s58::s59::s60::s61::s62::s63::s64::s65::s66::s67::s68::s69::s70::s71::s72::s73::s74::s75::s76::s77::s78::s79::s80::s81::s82::s83::s84::s85::s86::s87::s88::s89::s90::s91::s92::s93::s94::s95::s96::s97::s98::s99::s100::s101::s102::s103::s104::s105::s106::s107::s108::s109::s110::s111::s112::s113::s114::s115::s116::s117::s118::s119::s120::s121::s122::s123::s124::s125::s126::s127::s128::s129::s130::s131::s132::s133::s134::s135::s136::s137::s138::s139::s140::s141::s142::s143::s144::s145::s146::s147::s148::s149::s150::s151::s152::s153::s154::s155::s156::s157::s158::s159::s160::s161::s162::s163::s164::s165::s166::s167::s168::s169::s170::s171::s172::s173::s174::s175::s176::s177::s178::s179::.int .i64 (nn : Int)::.int .i64 0::s182::s183::s184::s185::s186::s187::s188::s189::s190::s191::s192::s193::s194::s195::s196::s197::s198::s199::s200::s201::s202::s203::s204::s205::s206::s207::s208::s209::s210::s211::s212::s213::s214::s215::s216::s217::s218::s219::s220::s221::s222::s223::s224::s225::s226::[]), defers := [] } wr := by
  have HQ := Lib.hid hQ
  clear hQ
  conv at hc => rhs; whnf
  subst hc
  go_loopw [20, 181] (fun o i wx => ∃ (j : Nat) (cnt : Int), j ≤ nn ∧ i = .int .i64 (j : Int) ∧ o = .int .i64 cnt ∧ 0 ≤ cnt ∧ cnt ≤ 1 ∧ Hid (cnt = if b < j then 1 else 0) ∧ Hid (Rd W wx b6 g c b17 b18 b19 L u qp xi)) (fun _ i _ => nn - (intOf i).toNat)
  case atStart => exact ⟨0, 0, Nat.zero_le _, rfl, rfl, Int.le_refl _, by decide, Lib.hid (by rw [if_neg (by omega)]), HR⟩
  case round =>
    clear HR
    obtain ⟨j, cnt, hj, rfl, rfl, hc0, hc1, HC, HR⟩ := hrel
    by_cases hjt : j < nn
    · obtain ⟨ys, hys⟩ := HR.out.sts
      have hla : j < L.length := by have := HN.out; omega
      have hla2 : j < ys.length := by rw [hys.len]; exact hla
      have hrow := hys.at_ hla hla2
      have hse := hys.see j hla hla2 _ (Only.refl _ _)
      have how := HOW.out j hla
      obtain ⟨yy, hyy⟩ : ∃ x, ys[j] = x := ⟨_, rfl⟩
      obtain ⟨s, hss⟩ : ∃ x, L[j] = x := ⟨_, rfl⟩
      rw [hyy, hss] at hrow hse
      rw [hss] at how
      obtain ⟨ob, hob⟩ : ∃ x, decide (j = b) = x := ⟨_, rfl⟩
      rw [hob] at how
      have HOB := Lib.hid hob
      have hv := hys.var.cell (j := 0) rfl
      rw [HN.out] at hv
      have HO := Lib.hid (Owns_any s yy 0 _ hse)
      rw [how] at HO
      unfold St.val at HO
      unfold St.vals at hrow
      have r0 := hrow 0 _ rfl
      have r1 := hrow 1 _ rfl
      have r2 := hrow 2 _ rfl
      have r3 := hrow 3 _ rfl
      have r4 := hrow 4 _ rfl
      have r5 := hrow 5 _ rfl
      have r6 := hrow 6 _ rfl
      have r7 := hrow 7 _ rfl
      simp only [Nat.add_zero] at r0
      clear hys hla hla2 hse how hyy hss hrow hob
      go_wp2_with fail
      clear hv r0 r1 r2 r3 r4 r5 r6 r7
      refine HO.out.mono ?_
      rintro e w4 ⟨rfl, hb4⟩
      have HR4 := Lib.hid (HR.out.later hb4)
      clear HO hb4 HR
      cases ob with
      | true =>
        have hjb : j = b := of_decide_eq_true HOB.out
        have hcz : cnt = 0 := by rw [HC.out]; exact if_neg (by omega)
        have HC2 : Hid (cnt + 1 = if b < j + 1 then 1 else 0) := Lib.hid (by rw [hcz, if_pos (by omega)]; rfl)
        have hce : cnt + 1 ≤ 1 := by omega
        clear hjb HC hcz
        go_wp2_with fail
        go_roundw
        case rel => exact ⟨j + 1, cnt + 1, by omega, by go_num, by go_num, by omega, hce, HC2, HR4⟩
        case measure => simp [intOf]; omega
      | false =>
        have hjb : j ≠ b := of_decide_eq_false HOB.out
        have HC2 : Hid (cnt = if b < j + 1 then 1 else 0) := Lib.hid (by
          rw [HC.out]
          by_cases h : b < j
          · rw [if_pos h, if_pos (by omega)]
          · rw [if_neg h, if_neg (by omega)])
        clear hjb HC
        go_wp2_with fail
        go_roundw
        case rel => exact ⟨j + 1, cnt, by omega, by go_num, rfl, hc0, hc1, HC2, HR4⟩
        case measure => simp [intOf]; omega
    · have hje : j = nn := by omega
      have hcz : cnt = 1 := by rw [HC.out]; exact if_pos (by omega)
      subst hje
      subst hcz
      go_wp2_with fail
      exact HQ.out _ _ _ _ _ _ _ _ _ _ _ _ _ HR
end Go.Proofs.Ytakeldpmfbahnaa.LedgerMoves

namespace Go.Proofs.Ytakeldpmfbahnaa.LedgerMoves
set_option maxRecDepth 100000
open Go.ChangeShapes Go.WideShapes Go.ChangeAt Go.RowKit Go.Deep Go.Proofs.Ytakeldpmfbahnaa.Mem Go.Proofs.Ytakeldpmfbahnaa.Item Go.Proofs.Ytakeldpmfbahnaa.Rec Go.Proofs.Ytakeldpmfbahnaa.Led

set_option maxHeartbeats 4000000 in
/-- Its owner has what came along. -/
theorem p43 {W wr : World} {b6 g c b17 b18 b19 n b K : Nat} {L : List St} {s : St} {u : Tid} {qp : Pl} {xi : It} {hop ver val tt : Int} (HR : Hid (Rd W wr b6 g c b17 b18 b19 L u qp xi)) (HS : Hid (L[b]? = some s)) (HND : Hid (Nd n b K s ⟨1, hop, tt, ver, val⟩))
    {cc : Code} (hc : cc = sub [1, 1, 1, 1, 1, 1, 1, 1, 0, 1, 0, 0, 1, 1, 0, 0, 1, 1, 1, 1, 1, 1, 1, 1, 1, 1, 1, 1, 1, 1, 1, 1, 0] ((Try.f5.body).getD .skip)) {s0 s1 s2 s3 s4 s5 s7 s8 s9 s13 s14 s15 s16 s17 s18 s19 s21 s22 s23 s24 s25 s26 s27 s28 s29 s30 s31 s32 s33 s34 s35 s36 s37 s38 s39 s40 s41 s42 s43 s44 s45 s46 s47 s48 s49 s50 s51 s52 s53 s54 s55 s56 s57 s58 s59 s60 s61 s62 s63 s64 s65 s66 s67 s68 s69 s70 s71 s72 s73 s74 s75 s76 s77 s78 s79 s80 s81 s82 s83 s84 s85 s86 s87 s88 s89 s90 s91 s92 s93 s94 s95 s96 s97 s98 s99 s100 s101 s102 s103 s104 s105 s106 s107 s108 s109 s110 s111 s112 s113 s114 s115 s116 s117 s118 s119 s120 s121 s122 s123 s124 s125 s126 s127 s128 s129 s130 s131 s132 s133 s134 s135 s136 s137 s138 s139 s140 s141 s142 s143 s144 s145 s146 s147 s148 s149 s150 s151 s152 s153 s154 s155 s156 s157 s158 s159 s160 s161 s162 s163 s164 s165 s166 s167 s168 s169 s170 s171 s172 s173 s174 s175 s176 s177 s178 s179 s180 s181 s182 s183 s184 s185 s186 s187 s188 s189 s190 s191 s192 s193 s194 s195 s196 s197 s198 s199 s200 s201 s202 s203 s204 s205 s206 s207 s208 s209 s210 s211 s212 s213 s214 s215 s216 s217 s218 s219 s220 s221 s222 s223 s224 s225 s226 : Value} {Q : Exit → Act → World → Prop}
    (hQ : ∀ (u192 u193 u194 u195 u196 u197 u198 u199 u200 u201 u202 u203 u204 u205 u206 u207 u208 u209 u210 u211 u212 u213 u214 u215 u216 u217 u218 u219 u220 u221 u222 u223 u224 : Value) (w' : World), Hid (Rd W w' b6 g c b17 b18 b19 L u qp xi) → Q .normal { tmps := List.toArray (s0::s1::s2::s3::s4::s5::.pointer (some ⟨b6, 0, none⟩)::s7::s8::s9::.int .i64 (b : Int)::.int .i64 hop::.int .i64 val::s13::s14::s15::s16::s17::s18::s19::.int .i64 1::s21::s22::s23::s24::s25::s26::s27::s28::s29::s30::s31::s32::s33::s34::s35::s36::s37::s38::s39::s40::s41::s42::s43::s44::s45::s46::s47::s48::s49::s50::s51::s52::s53::s54::s55::s56::s57::s58::s59::s60::s61::s62::s63::s64::s65::s66::s67::s68::s69::s70::s71::s72::s73::s74::s75::s76::s77::s78::s79::s80::s81::s82::s83::s84::s85::s86::s87::s88::s89::s90::s91::s92::s93::s94::s95::s96::s97::s98::s99::s100::s101::s102::s103::s104::s105::s106::s107::s108::s109::s110::s111::s112::s113::s114::s115::s116::s117::s118::s119::s120::s121::s122::s123::s124::s125::s126::s127::s128::s129::s130::s131::s132::s133::s134::s135::s136::s137::s138::s139::s140::s141::s142::s143::s144::s145::s146::s147::s148::s149::s150::s151::s152::s153::s154::s155::s156::s157::s158::s159::s160::s161::s162::s163::s164::s165::s166::s167::s168::s169::s170::s171::s172::s173::s174::s175::s176::s177::s178::s179::s180::s181::s182::s183::s184::s185::s186::s187::s188::s189::s190::s191::u192::u193::u194::u195::u196::u197::u198::u199::u200::u201::u202::u203::u204::u205::u206::u207::u208::u209::u210::u211::u212::u213::u214::u215::u216::u217::u218::u219::u220::u221::u222::u223::u224::.bool false::s226::[]), defers := [] } w') :
    Code.wp Try.prog cc Q { tmps := List.toArray (s0::s1::s2::s3::s4::s5::.pointer (some ⟨b6, 0, none⟩)::s7::s8::s9::.int .i64 (b : Int)::.int .i64 hop::.int .i64 val::s13::s14::s15::s16::s17::s18::s19::.int .i64 1::s21::s22::s23::s24::s25::s26::s27::s28::s29::s30::s31::s32::s33::s34::s35::s36::s37::s38::s39::s40::s41::s42::s43::s44::s45::s46::s47::s48::s49::s50::s51::s52::s53::s54::s55::s56::s57::s58::s59::s60::s61::s62::s63::s64::s65::s66::s67::s68::s69::s70::s71::s72::s73::s74::s75::s76::s77::s78::s79::s80::s81::s82::s83::s84::s85::s86::s87::s88::s89::s90::s91::s92::s93::s94::s95::s96::s97::s98::s99::s100::s101::s102::s103::s104::s105::s106::s107::s108::s109::s110::s111::s112::s113::s114::s115::s116::s117::s118::s119::s120::s121::s122::s123::s124::s125::s126::s127::s128::s129::s130::s131::s132::s133::s134::s135::s136::s137::s138::s139::s140::s141::s142::s143::s144::s145::s146::s147::s148::s149::s150::s151::s152::s153::s154::s155::s156::s157::s158::s159::s160::s161::s162::s163::s164::s165::s166::s167::s168::s169::s170::s171::s172::s173::s174::s175::s176::s177::s178::s179::s180::s181::s182::s183::s184::s185::s186::s187::s188::s189::s190::s191::s192::s193::s194::s195::s196::s197::s198::s199::s200::s201::s202::s203::s204::s205::s206::s207::s208::s209::s210::s211::s212::s213::s214::s215::s216::s217::s218::s219::s220::s221::s222::s223::s224::s225::s226::[]), defers := [] } wr := by
  have HQ := Lib.hid hQ
  clear hQ
  conv at hc => rhs; whnf
  subst hc
  have HR3 := HR
  have HS3 := HS
  obtain ⟨ys, hys⟩ := HR3.out.sts
  have hla : b < (L).length := (List.getElem?_eq_some_iff.1 HS3.out).1
  have hla2 : b < ys.length := by rw [hys.len]; exact hla
  have hrow := hys.at_ hla hla2
  have hee := (List.getElem?_eq_some_iff.1 HS3.out).2
  have hse := hys.see b hla hla2 _ (Only.refl _ _)
  rw [hee] at hrow hse
  obtain ⟨yy, hyy⟩ : ∃ x, ys[b] = x := ⟨_, rfl⟩
  rw [hyy] at hrow hse
  have hv := hys.var.cell (j := 0) rfl
  have HSE := Lib.hid hse
  have HYS := Lib.hid hys
  have HOW := Lib.hid (Owns_any s yy 0 _ hse)
  rw [HND.out.owns] at HOW
  unfold St.val at HOW
  unfold St.vals at hrow
  obtain ⟨nn, hnn⟩ : ∃ x, (L).length = x := ⟨_, rfl⟩
  rw [hnn] at hv hla
  have HNN := Lib.hid hnn
  have r0 := hrow 0 _ rfl
  have r1 := hrow 1 _ rfl
  have r2 := hrow 2 _ rfl
  have r3 := hrow 3 _ rfl
  have r4 := hrow 4 _ rfl
  have r5 := hrow 5 _ rfl
  have r6 := hrow 6 _ rfl
  have r7 := hrow 7 _ rfl
  simp only [Nat.add_zero] at r0
  clear hys hla2 hee hse hyy hrow hnn
  go_wp2_with fail
  clear hv r0 r1 r2 r3 r4 r5 r6 r7
  refine HOW.out.mono ?_
  rintro e w4 ⟨rfl, hb4⟩
  have HR4 := Lib.hid (HR.out.later hb4)
  have hys4 := HYS.out.later hb4 (S' := fun j => j = b6 ∨ j = g ∨ j = b18) (fun k _ e => e) HYS.out.has
  have hse4 := HSE.out.later hb4
  have hla1 : b < L.length := (List.getElem?_eq_some_iff.1 HS.out).1
  have hrow := hys4.at_ hla1 (by rw [HYS.out.len]; exact hla1)
  have hv := hys4.var.cell (j := 0) rfl
  have r4 := hrow 4 _ rfl
  have hse5 := hys4.see b hla1 (by rw [HYS.out.len]; exact hla1) _ (Only.refl _ _)
  rw [(List.getElem?_eq_some_iff.1 HS.out).2] at r4 hse5
  obtain ⟨y5, hy5⟩ : ∃ x, ys[b]'(by rw [HYS.out.len]; exact hla1) = x := ⟨_, rfl⟩
  rw [hy5] at r4 hse5
  have hlp : 0 < s.places.length := by rw [HND.out.places]; exact Nat.one_pos
  obtain ⟨pb, po, hP, y0, y1, y2, y3, y4⟩ := place_cells hse5.places hlp
  have hq : s.places[0] = ⟨1, hop, tt, ver, val⟩ := by simp only [HND.out.places]; rfl
  rw [hq] at y1 y4
  simp only [Nat.zero_mul, Nat.add_zero] at y1 y4
  rw [hP, HND.out.places] at r4
  simp only [List.length_cons, List.length_nil] at r4
  rw [HNN.out] at hv
  clear hys4 hse4 hse5 hlp hq hP hrow hy5 y0 y2 y3 HOW hb4
  go_wp2_with fail
  exact HQ.out _ _ _ _ _ _ _ _ _ _ _ _ _ _ _ _ _ _ _ _ _ _ _ _ _ _ _ _ _ _ _ _ _ _ HR4
end Go.Proofs.Ytakeldpmfbahnaa.LedgerMoves

namespace Go.Proofs.Ytakeldpmfbahnaa.LedgerMoves
set_option maxRecDepth 100000
open Go.ChangeShapes Go.WideShapes Go.ChangeAt Go.RowKit Go.Deep Go.Proofs.Ytakeldpmfbahnaa.Mem Go.Proofs.Ytakeldpmfbahnaa.Item Go.Proofs.Ytakeldpmfbahnaa.Rec Go.Proofs.Ytakeldpmfbahnaa.Led

set_option maxHeartbeats 4000000 in
theorem walk (nd : Int) (A : Option Addr) (f : Nat → Int) (ln cap : Nat) (W : World) (hnd : 0 ≤ nd ∧ nd ≤ 255) (hA : ∀ i, i < ln → ∃ b off, A = some ⟨b, off, none⟩ ∧ W.cell? ⟨b, off + i, none⟩ = some (.int .u8 (f i))) (hf : ∀ i, i < ln → 0 ≤ f i ∧ f i ≤ 255) (hl : ln ≤ maxLen) :
    Calls Try.prog 5 #[.int .u8 nd, .slice A ln cap] W fun e W' => e = .returned (.bool true) ∧ Below W.heap.size W W' := by
  have HA := Lib.hid hA
  have HF := Lib.hid hf
  have hlb : ln ≤ 9223372036854775807 := Nat.le_trans hl (by decide)
  clear hA hf hl
  obtain ⟨n, hn⟩ : ∃ n : Nat, (n : Int) = 2 + nd % 15 := ⟨(2 + nd % 15).toNat, by omega⟩
  have hm : Int.tmod nd 15 = nd % 15 := Int.tmod_eq_emod_of_nonneg hnd.1
  have hn16 : n ≤ 16 := by omega
  have hn2 : 2 ≤ n := by omega
  have hq15 : 0 ≤ nd % 15 ∧ nd % 15 < 15 := by omega
  have HNN := Lib.hid hn
  go_enter Try.func5, Try.ntmps5
  go_wp2_with fail
  refine (awake_any W).mono ?_
  rintro e w2 ⟨rfl, hb2⟩
  have HB2 := Lib.hid hb2
  clear hb2
  go_upto_region 3 with (fail)
  go_cut [5] from 22 to 27 (fun v wx => v = .int .i64 (n : Int) ∧ wx = w2)
  case first =>
    go_wp2_with fail
    go_meet
    exact ⟨by rw [HNN.out], rfl⟩
  case rest =>
    obtain ⟨rfl, rfl⟩ := hcut
    by_cases hbig : 40 < ln
    · go_wp2_with fail
      go_returns
      exact ⟨rfl, HB2.out⟩
    · obtain ⟨w6, hw6⟩ : ∃ v, v = wc.alloc (.cells #[.slice none 0 0] 60) := ⟨_, rfl⟩
      have hb6 : Below wc.heap.size wc w6 := by rw [hw6]; exact below_alloc _ _
      have HBD : Hid (Bd W w6 wc.heap.size w6.heap.size n 0 (.slice none 0 0) []) := Lib.hid ⟨HB2.out.trans (hb6.mono HB2.out.size), by rw [hw6]; exact cells_new _ _ _ _ rfl, World.ownsRow_nil _ _ _ _, rfl, fun i h => absurd h (by simp [mvL]), HB2.out.size, by rw [hw6, World.size_alloc]; exact Nat.lt_succ_self _, Nat.le_refl _⟩
      clear hb6 hm hq15 hn
      go_upto_region 7 with (fail)
      rw [← hw6]
      clear hw6
      obtain ⟨b6, hb6⟩ : ∃ b, wc.heap.size = b := ⟨_, rfl⟩
      rw [hb6] at HBD ⊢
      clear hb6
      go_wp2_with fail
      refine p8 HBD hn16 (by kernel_rfl) ?_
      intro u4 u7 u8 u9 u31 u32 u33 u34 u35 u36 u37 u38 u39 u40 u41 u42 u43 u44 u45 u46 u47 w7 hx7
      obtain ⟨v7, ys7, HB7⟩ := hx7
      obtain ⟨g, c, _, hms⟩ := HB7.out.ms (by omega)
      have HMS := Lib.hid hms
      have HRG := Lib.hid (Ring.first hn16 (by omega))
      clear hms HB7 HBD
      dsimp only [Exit.inBlock]
      rw [if_pos rfl]
      go_wp2_with fail
      go_loopw [10, 11, 12, 51] (fun av hv vv iv wx => ∃ (k a : Nat) (hop val : Int) (L : List St), k ≤ ln ∧ iv = .int .i64 (k : Int) ∧ av = .int .i64 (a : Int) ∧ hv = .int .i64 hop ∧ vv = .int .i64 val ∧ Hid (Ring n k a hop val L) ∧ Hid (Ms W wx b6 g c L)) (fun _ _ _ iv _ => ln - (intOf iv).toNat)
      case atStart => exact ⟨0, 0, 0, 0, _, Nat.zero_le _, rfl, rfl, rfl, rfl, HRG, HMS⟩
      case round =>
        clear HRG HMS
        obtain ⟨k, a, hop, val, L, hk, rfl, rfl, rfl, rfl, HRG, HMS⟩ := hrel
        by_cases hkt : k < ln
        · obtain ⟨ab, off, hAA, hx⟩ := HA.out k hkt
          have x0 := lowc HMS.out.low hx
          have hxb := HF.out k hkt
          obtain ⟨x, hxx⟩ : ∃ x, f k = x := ⟨_, rfl⟩
          rw [hxx] at x0 hxb
          obtain ⟨b, hb⟩ : ∃ b : Nat, (b : Int) = x % (n : Int) := ⟨(x % (n : Int)).toNat, by
            have := Int.emod_nonneg x (show (n : Int) ≠ 0 by omega)
            omega⟩
          have htm : Int.tmod x (n : Int) = (b : Int) := by rw [Int.tmod_eq_emod_of_nonneg hxb.1, hb]
          have hbn : b < n := by
            have := Int.emod_lt_of_pos x (show (0 : Int) < (n : Int) by omega)
            omega
          have hn0 : ¬ (n : Int) = 0 := by omega
          have HBN := Lib.hid hbn
          clear hx hxx hb
          subst hAA
          by_cases hba : b = a
          · subst hba
            have HRG2 := Lib.hid HRG.out.mono
            go_wp2_with fail
            go_roundw
            case rel => exact ⟨k + 1, b, hop, val, L, by omega, by go_num, rfl, rfl, rfl, HRG2, HMS⟩
            case measure => simp [intOf]; omega
          · have hbne : ¬ (b : Int) = (a : Int) := by omega
            obtain ⟨s, tt, ver, hs, hnd, hver⟩ := HRG.out.own
            have hhop := HRG.out.hopB
            have hval := HRG.out.valB
            have hlen := HRG.out.len
            have hla := HRG.out.lt
            have HS := Lib.hid hs
            have HND := Lib.hid hnd
            obtain ⟨ys, hys⟩ := HMS.out.sts
            have hla1 : a < L.length := by omega
            have hla2 : a < ys.length := by rw [hys.len]; exact hla1
            have hrow := hys.at_ hla1 hla2
            have hse := hys.see a hla1 hla2 _ (Only.refl _ _)
            rw [(List.getElem?_eq_some_iff.1 hs).2] at hrow hse
            obtain ⟨yy, hyy⟩ : ∃ x, ys[a] = x := ⟨_, rfl⟩
            rw [hyy] at hrow hse
            have hv := hys.var.cell (j := 0) rfl
            rw [hlen] at hv
            have hl6 := hys.var.lt
            have hlg := hys.row.lt
            have hlp : 0 < s.places.length := by rw [hnd.places]; exact Nat.one_pos
            obtain ⟨pb, po, hP, y0, y1, y2, y3, y4⟩ := place_cells hse.places hlp
            have hq : s.places[0] = ⟨1, hop, tt, ver, val⟩ := by simp only [hnd.places]; rfl
            rw [hq] at y0 y1 y2 y3 y4
            simp only [Nat.zero_mul, Nat.add_zero] at y0 y1 y2 y3 y4
            have r4 := hrow 4 _ rfl
            rw [hP, hnd.places] at r4
            simp only [List.length_cons, List.length_nil] at r4
            have hlpb : pb < wr.heap.size := block_of_cell y0
            obtain ⟨w1, hw1⟩ : ∃ v, v = wr.alloc (.cells #[.int .i64 1, .int .i64 1, .int .i64 ((k : Int) + 1)] 37) := ⟨_, rfl⟩
            obtain ⟨w2, hw2⟩ : ∃ v, v = w1.alloc (.cells #[.int .i64 1, .int .i64 hop, .int .i64 tt, .int .i64 ver, .int .i64 val] 51) := ⟨_, rfl⟩
            obtain ⟨w3, hw3⟩ : ∃ v, v = w2.alloc (.cells #[.int .i64 0, .int .i64 ver, .int .i64 val, .bool true, .int .i64 ((k : Int) + 7)] 57) := ⟨_, rfl⟩
            have HRD := Lib.hid (HMS.out.rd (mvT ((k : Int) + 1)) ⟨1, hop, tt, ver, val⟩ (mvI ver val ((k : Int) + 7)) hw1 hw2 hw3)
            have HHOP := Lib.hid hhop
            have HVER := Lib.hid hver
            have HBA := Lib.hid hba
            have HLA := Lib.hid hla1
            clear hs hnd hys hla2 hrow hse hyy hlp hP hq HMS hba hla1
            go_upto_region 24 with (fail)
            rw [← hw1]
            rw [← hw2]
            rw [← hw3]
            clear hw1 hw2 hw3 x0 hv r4 y0 y1 y2 y3 y4 hl6 hlg hlpb
            refine p24 HRD HS HND hn16 hla hbn HBA.out (by omega) ⟨hhop.1, by omega⟩ ⟨hver.1, by have := hver.2; omega⟩ (by kernel_rfl) (by rfl) ?_
            intro u80 u81 u82 u83 u84 u85 u86 u87 u88 u89 u90 u91 u92 u93 u94 u95 u96 u97 u98 u99 u100 u101 u102 u103 u104 u105 u106 u107 u108 u109 u110 u111 u112 u113 w4 HR4
            have hd3 := mv_done HND.out ver val ((k : Int) + 7) ((a : Int) + 1) (by omega) ⟨hver.1, by show ver ≤ 1000; have := hver.2; omega⟩
            obtain ⟨s2, hs2⟩ : ∃ x, (fFollow (mvS1 s ((k : Int) + 1) ver val ((k : Int) + 7) ((a : Int) + 1)) (mvD ((k : Int) + 1))).1 = x := ⟨_, rfl⟩
            rw [hs2] at hd3 HR4
            have HND4 : Hid (Nd n a (k + 1) s2 ⟨1, hop, tt, ver + 1, (k : Int) + 7⟩) := Lib.hid hd3.2
            have HS4 : Hid ((L.set a s2)[a]? = some s2) := Lib.hid (by rw [List.getElem?_set_self HLA.out])
            clear hd3 hs2 HRD
            go_upto_region 28 with (fail)
            refine p28 HR4 HS4 HND4 hn16 hbn HBA.out (by omega) ⟨hhop.1, by omega⟩ (by kernel_rfl) (by rfl) ?_
            intro u119 u120 u121 u122 u123 u124 u125 u126 u127 u128 u129 u130 u131 u132 w5 HR5
            rw [List.set_set] at HR5
            have HND5 := Lib.hid (HND4.out.setPl ⟨2, hop + 1, (b : Int) + 1, ver + 1, (k : Int) + 7⟩)
            obtain ⟨s3, hs3⟩ : ∃ x, setPl s2 0 ⟨2, hop + 1, (b : Int) + 1, ver + 1, (k : Int) + 7⟩ = x := ⟨_, rfl⟩
            rw [hs3] at HND5 HR5
            have HS5 : Hid ((L.set a s3)[a]? = some s3) := Lib.hid (by rw [List.getElem?_set_self HLA.out])
            clear hs3 HR4 HND4 HS4
            go_upto_region 30 with (fail)
            refine p30 HR5 HS5 HND5 (by kernel_rfl) ?_
            intro u134 u135 u136 u137 u138 u139 u140 w6 HR6
            have hlb2 : b < L.length := by rw [hlen]; exact hbn
            obtain ⟨qb, hnb, hqb1, hqb2⟩ := HRG.out.node b hlb2
            have HSB : Hid ((L.set a s3)[b]? = some L[b]) := Lib.hid (by rw [List.getElem?_set, if_neg (fun e => HBA.out e.symm), List.getElem?_eq_getElem hlb2])
            obtain ⟨sb, hsb⟩ : ∃ x, L[b] = x := ⟨_, rfl⟩
            rw [hsb] at hnb HSB
            have HNB := Lib.hid hnb
            have hq2 := hqb2 HBA.out
            clear hnb hsb hqb2 HR5
            go_upto_region 31 with (fail)
            refine p31 HR6 HSB HNB hq2 (by omega) (by omega) ⟨by omega, by omega⟩ ⟨by omega, by omega⟩ ⟨by omega, by omega⟩ (by kernel_rfl) (by rfl) ?_
            intro u141 u142 u143 u144 u145 u146 u147 u148 u149 u150 u151 u152 u153 u154 u155 u156 u157 u158 w7 HR7
            have HNT := Lib.hid (HNB.out.setPl ⟨1, hop + 1, 0, ver + 1, (k : Int) + 7⟩)
            obtain ⟨t, ht⟩ : ∃ x, setPl sb 0 ⟨1, hop + 1, 0, ver + 1, (k : Int) + 7⟩ = x := ⟨_, rfl⟩
            rw [ht] at HNT HR7
            have HS7 : Hid (((L.set a s3).set b t)[a]? = some s3) := Lib.hid (by rw [List.getElem?_set, if_neg HBA.out]; exact HS5.out)
            clear ht HR6 HSB HNB hq2 hqb1 HS5
            go_upto_region 33 with (fail)
            refine p33 HR7 HS7 HND5 (by omega) ⟨by omega, by omega⟩ (by omega) (by kernel_rfl) (by rfl) ?_
            intro u160 u161 u162 u163 u164 u165 u166 u167 u168 u169 u170 u171 u172 u173 u174 u175 u176 w8 hx8
            obtain ⟨sa, qa, hsa, hqa1, hqa2, HR8⟩ := hx8
            have hrn := HRG.out.next hbn HBA.out (by omega) hver (s3 := s3) HNT.out hsa hqa1 hqa2
            have HST : Hid ((((L.set a s3).set b t).set a sa)[b]? = some t) := Lib.hid (by rw [List.getElem?_set, if_neg (fun e => HBA.out e.symm), List.getElem?_set_self (by rw [List.length_set]; exact hlb2)])
            obtain ⟨L8, hL8⟩ : ∃ x, ((L.set a s3).set b t).set a sa = x := ⟨_, rfl⟩
            rw [hL8] at hrn HR8 HST
            have HRN := Lib.hid hrn
            have HLN := Lib.hid hrn.len
            have HOW := Lib.hid hrn.owns
            have hv8 : w8.cell? ⟨b6, 0, none⟩ = some (.slice (some ⟨g, 0, none⟩) n c) := by
              obtain ⟨y8, hy8⟩ := HR8.out.sts
              have := hy8.var.cell (j := 0) rfl
              rw [HLN.out] at this
              exact this
            clear hsa hqa1 hqa2 hrn hL8 HR7 HS7 HND5 HRG HS HND HHOP HVER HLA hlb2 hlen hla hval hbne
            go_wp2_with fail
            refine p38 HR8 HLN hbn (by omega) HOW (by kernel_rfl) ?_
            intro u21 u181 u182 u183 u184 u185 u186 u187 u188 u189 u190 u191 w9 HR9
            dsimp only [Exit.inBlock]
            rw [if_pos rfl]
            go_upto_region 43 with (fail)
            refine p43 HR9 HST HNT (by kernel_rfl) ?_
            intro u192 u193 u194 u195 u196 u197 u198 u199 u200 u201 u202 u203 u204 u205 u206 u207 u208 u209 u210 u211 u212 u213 u214 u215 u216 u217 u218 u219 u220 u221 u222 u223 u224 w10 HR10
            have HMS := Lib.hid HR10.out.ms
            clear hv8 HR8 HR9 HR10
            go_wp2_with fail
            go_roundw
            case rel => exact ⟨k + 1, b, hop + 1, (k : Int) + 7, L8, by omega, by go_num, rfl, rfl, rfl, HRN, HMS⟩
            case measure => simp [intOf]; omega
        · go_wp2_with fail
          go_returns
          exact ⟨rfl, HMS.out.low⟩

theorem u8_wf {x : Int} (h : (Lit.int .u8 x).wf = true) : 0 ≤ x ∧ x ≤ 255 := by
  have h1 : IntKind.u8.min = 0 := rfl
  have h2 : IntKind.u8.max = 255 := rfl
  simp only [Lit.wf, Bool.and_eq_true, decide_eq_true_eq, h1, h2] at h
  exact h
theorem open_u8 {H : Type} {enc : TypeId × Value → H} {W : World} {base : Nat} {v : Value} {d : DataW H} {p : List MemPlace}
    (o : Value.okWide Try.prog W .any base 5 v) (h : DataW.Trod enc Try.prog W 0 (fun _ => true) true 5 v d p) : ∃ n : Int, v = .int .u8 n ∧ 0 ≤ n ∧ n ≤ 255 := by
  obtain ⟨n, rfl⟩ := okWide_int Try.underlying5 o
  obtain ⟨fuel, hf⟩ := h
  obtain ⟨m, e, _, w⟩ := DataW.trod_int Try.underlying5 hf
  simp [Value.cells] at e
  subst e
  exact ⟨n, rfl, u8_wf w⟩
theorem opened {H : Type} {enc : TypeId × Value → H} {W : World} {base : Nat} {gs : List (DataW H)} (v0 : Value) (d0 : DataW H) (p0 : List MemPlace) (v1 : Value) (d1 : DataW H) (p1 : List MemPlace)
    (o0 : Value.okWide Try.prog W .any base 5 v0) (t0 : DataW.Trod enc Try.prog W 0 (fun _ => true) true 5 v0 d0 p0)
    (o1 : Value.okWide Try.prog W .any base 59 v1) (t1 : DataW.Trod enc Try.prog W 0 (fun _ => true) true 59 v1 d1 p1)
    (_hsz : (DataW.weightsEach Try.prog ([5, 59] ++ []) ([d0, d1] ++ gs)).all (· ≤ reachBytes) = true) :
    Calls Try.prog 5 #[v0, v1] W fun e W' => e = .returned (.bool true) ∧ Below W.heap.size W W' := by
  obtain ⟨nd, rfl, hnd⟩ := open_u8 o0 t0
  obtain ⟨A, f, ln, cap, rfl, hl, _, hA⟩ := Base.open_nums Try.underlying59 Try.underlying5 (by kernel_rfl) o1 t1
  exact walk nd A f ln cap W hnd (fun i hi => (hA i hi).1) (fun i hi => u8_wf (hA i hi).2) hl

theorem contract (H : Type) (enc : TypeId × Value → H) (W : World) (base : Nat) (args : Array Value) (ds gs : List (DataW H)) (before : List MemPlace)
    (hval : ∀ (j : Nat) t v, Try.f5.params[j]? = some t → args[j]? = some v → Value.okWide Try.prog W .any base t v)
    (hW : DataW.Whole enc Try.prog Try.f5.params.toList Rows.ledgerMovesSpec.vars false W args.toList ds gs before)
    (hsz : (DataW.weightsEach Try.prog (Try.f5.params.toList ++ []) (ds ++ gs)).all (· ≤ reachBytes) = true) :
    Calls Try.prog 5 args W fun e W' => ∃ v, e = .returned v ∧ Rows.ledgerMovesSpec.post enc Try.prog Try.f5 false true false false W args v W' := by
  have hW0 := hW
  obtain ⟨p, q, hA0, hV, rfl, _, _⟩ := hW
  have hA : DataW.TrodAll enc Try.prog W 0 (fun _ => true) true Try.f5.params.toList args.toList ds p := hA0
  rw [Try.params5] at hA hval hsz
  obtain ⟨v0, vs0, d0, ds0, p0, q0, hargs, rfl, rfl, h0, r0⟩ := trodAll_cons hA
  obtain ⟨v1, vs1, d1, ds1, p1, q1, rfl, rfl, rfl, h1, r1⟩ := trodAll_cons r0
  obtain ⟨rfl, rfl, rfl⟩ := trodAll_nil r1
  obtain rfl : args = #[v0, v1] := by cases args; simp_all
  refine (opened v0 d0 p0 v1 d1 p1 (hval 0 5 v0 rfl rfl) h0 (hval 1 59 v1 rfl rfl) h1 hsz).mono fun e W' ⟨he, hb⟩ => ⟨_, he, ?_⟩
  exact Base.law_post (tb := 4) Base.laidOut (by kernel_rfl) rfl Try.underlying4 rfl (fun l hl => by
    rw [Try.params5] at hl
    match l, hl with
    | [_, _], _ => rfl) (by rw [Try.params5]; rfl) hW0 hb

theorem laid_met (os : Os) : laidMet Try.prog Rows.ledgerMovesRow.laid ((Base.plainWorld os).forCall (fun _ _ => 0) ⟨#[], #[.int .u8 0, .slice none 0 0], []⟩).memory := laidMet_nil _ _
theorem reads (os : Os) {H : Type} (enc : TypeId × Value → H) : ∃ places, DataW.whole enc Try.prog ((Base.plainWorld os).forCall (fun _ _ => 0) ⟨#[], #[.int .u8 0, .slice none 0 0], []⟩).memory Try.f5.params.toList Rows.ledgerMovesSpec.vars false (#[.int .u8 0, .slice none 0 0] : Array Value).toList 8 = some ([.lit (.int .u8 0), .nil], [], places) :=
  ⟨[], by kernel_rfl⟩

set_option maxRecDepth 100000 in
theorem lifted (os : Os) (started : os.Started) (H : Type) (enc : TypeId × Value → H) (F : Stop.Interp) :
    ReturnsInHanded {} Try.checked os 5 .any ((OpenSpec.ofChange Rows.ledgerMovesSpec).preRow enc Try.prog Try.f5 Rows.ledgerMovesRow.domain false Rows.ledgerMovesRow.laid) (((OpenSpec.ofChange Rows.ledgerMovesSpec).at F).post enc Try.prog Try.f5 false true false false) := by
  obtain ⟨places, hx⟩ := reads os enc
  refine returnsInHanded_of_row (C := Try.checked) (s := OpenSpec.ofChange Rows.ledgerMovesSpec) Base.own started (by kernel_rfl) Try.func5
    (witness_row_at (enc := enc) (C := Try.checked) false (Base.plainWorld os) #[.int .u8 0, .slice none 0 0] rfl (by kernel_rfl) (by kernel_rfl) (by kernel_rfl)
      (OpenSpec.preRow_of_cond 8 hx (by kernel_rfl) (fun k hk => by cases hk) (by kernel_rfl) (laid_met os))) ?_
  intro W base args ds gs before hval hW _ _ hsz _ _ _
  exact contract H enc W base args ds gs before hval hW hsz

theorem said : Rows.LedgerMovesSaid :=
  OpenClaim.holds_of_cond 5 Try.f5 rfl rfl rfl rfl rfl rfl rfl ⟨rfl, rfl, rfl, rfl, rfl⟩ rfl rfl rfl rfl rfl (by kernel_rfl) Try.func5 (by kernel_rfl)
    (of_decide_eq_true (by kernel_rfl)) (by unfold Func.isWrapper; rw [if_neg (of_decide_eq_false (by kernel_rfl))]; exact ⟨rfl, rfl⟩)
    (fun os started H enc _ F => by rw [OpenClaim.pre_eq_preRow]; exact lifted os started H enc F)
#print axioms said
end Go.Proofs.Ytakeldpmfbahnaa.LedgerMoves
