/-
  Layer 14, SessionAll: what Take does with a packet that may be, in the words of the one other peer; epochs of what is on its way. All pure.
  Conditions: none.
-/
import Derived.Test.YtccdpgbmkiapdaaL45
namespace Go.Proofs.Ytccdpgbmkiapdaa.Ses
set_option maxRecDepth 100000
open Go.RowKit Go.Deep Go.Proofs.Ytccdpgbmkiapdaa.Mem Go.Proofs.Ytccdpgbmkiapdaa.Win
/-- The peer behind a meeting, if there is one. -/
def metP (p : Pm) (e : Ev) : Pm := if p.known < e.epoch then (meetP p e.epoch).2 else p
def resent (E x : Int) (p : Pm) (e : Ev) : List Ot := if p.known < e.epoch ∧ p.known ≠ 0 then dataL x E e.epoch (metP p e).held else []
def staleB (E : Int) (e : Ev) : Bool := decide (e.peer ≠ 0 ∧ e.peer ≠ E)
def ackL (E x : Int) (e : Ev) : List Ot := if staleB E e then [⟨x, 2, E, e.epoch, 0, ⟨#[]⟩⟩] else if e.kind = 2 then [] else [⟨x, 2, E, e.epoch, e.seq, ⟨#[]⟩⟩]
def afterP (E : Int) (p : Pm) (e : Ev) : Pm := if staleB E e then metP p e else if e.kind = 2 then (if e.peer = 0 then metP p e else goP (metP p e) e.seq) else if seenL (metP p e).L e.seq = true then metP p e else ⟨(metP p e).L ++ [e.seq], (metP p e).known, (metP p e).last, (metP p e).held⟩
theorem metP_known {p : Pm} {e : Ev} (h : p.known ≤ e.epoch) : (metP p e).known = e.epoch := by
 unfold metP
 split
 ·exact meet_known _ _
 ·omega
theorem peer_same {S : Sm} {x : Int} (ho : other S x = true) : putP S x (peerOf S x) = S := by
 unfold other at ho
 have h := of_decide_eq_true ho
 unfold putP peerOf
 have hl : (x - 1).toNat < S.peers.length := by omega
 rw [List.getElem?_eq_getElem hl, Option.getD_some, List.set_getElem_self]
theorem putP_put {S : Sm} (x : Int) (p q : Pm) : putP (putP S x p) x q = putP S x q := by
 unfold putP
 simp only [List.set_set]
theorem tail_eq {S : Sm} {x : Int} {e : Ev} {out : List Ot} (ho : other S x = true) (hk : (peerOf S x).known = e.epoch) :
  (tailM S x e out).2.1 = out ++ ackL S.epoch x e ∧ ∃ q, (tailM S x e out).2.2.2 = putP S x q ∧ q = (if staleB S.epoch e then peerOf S x else if e.kind = 2 then (if e.peer = 0 then peerOf S x else goP (peerOf S x) e.seq) else if seenL (peerOf S x).L e.seq = true then peerOf S x else ⟨(peerOf S x).L ++ [e.seq], (peerOf S x).known, (peerOf S x).last, (peerOf S x).held⟩) := by
 have hs := peer_same ho
 unfold tailM ackL staleB
 by_cases h1 : e.peer ≠ 0 ∧ e.peer ≠ S.epoch
 ·rw [if_pos h1, decide_eq_true h1]
  simp only [if_true]
  refine ⟨?_, _, ?_, rfl⟩
  ·show out ++ [ackO S x (peerOf S x).known 0] = _
   rw [hk]
   rfl
  ·exact hs.symm
 ·rw [if_neg h1, decide_eq_false h1]
  simp only [Bool.false_eq_true, if_false]
  by_cases h2 : e.kind = 2
  ·rw [if_pos h2, if_pos h2, if_pos h2]
   refine ⟨by simp, _, ?_, rfl⟩
   show (if e.peer = 0 then S else putP S x (goP (peerOf S x) e.seq)) = _
   split
   ·exact hs.symm
   ·rfl
  ·rw [if_neg h2, if_neg h2, if_neg h2]
   by_cases h3 : seenL (peerOf S x).L e.seq = true
   ·rw [if_pos h3, if_pos h3]
    refine ⟨?_, _, hs.symm, rfl⟩
    show out ++ [ackO S x (peerOf S x).known e.seq] = _
    rw [hk]
    rfl
   ·rw [if_neg h3, if_neg h3]
    refine ⟨?_, _, rfl, rfl⟩
    show out ++ [ackO S x (peerOf S x).known e.seq] = _
    rw [hk]
    rfl
/-- What Take does with a packet whose epoch isn't elder than what is known. -/
theorem take_eq {S : Sm} {x : Int} {e : Ev} (ho : other S x = true) (hr : rightE e = true) (hk : (peerOf S x).known ≤ e.epoch) :
  (takeM S x e).2.1 = resent S.epoch x (peerOf S x) e ++ ackL S.epoch x e ∧ (takeM S x e).2.2.2 = putP S x (afterP S.epoch (peerOf S x) e) := by
 unfold takeM
 rw [if_neg (by rw [ho]; decide), if_neg (by rw [hr]; decide), if_neg (by omega)]
 by_cases hm : (peerOf S x).known < e.epoch
 ·rw [if_pos hm]
  have hput := peer_put ho (meetP (peerOf S x) e.epoch).2
  obtain ⟨t1, q, t2, t3⟩ := tail_eq (S := putP S x (meetP (peerOf S x) e.epoch).2) (x := x) (e := e) (out := if (meetP (peerOf S x) e.epoch).1 then dataL x S.epoch (meetP (peerOf S x) e.epoch).2.known (meetP (peerOf S x) e.epoch).2.held else []) (by rw [(Fix.put S x _).other]; exact ho) (by rw [hput]; exact meet_known _ _)
  have hep : (putP S x (meetP (peerOf S x) e.epoch).2).epoch = S.epoch := rfl
  rw [hep] at t1 t3
  rw [hput] at t3
  have hmet : metP (peerOf S x) e = (meetP (peerOf S x) e.epoch).2 := if_pos hm
  refine ⟨?_, ?_⟩
  ·rw [t1]
   unfold resent
   rw [hmet]
   unfold ackL
   congr 1
   by_cases h0 : (peerOf S x).known = 0
   ·have hq : ¬ ((peerOf S x).known < e.epoch ∧ (peerOf S x).known ≠ 0) := fun k => k.2 h0
    have h1 : (meetP (peerOf S x) e.epoch).1 = false := by unfold meetP; rw [if_pos h0]
    rw [h1, if_neg hq]
    rfl
   ·have h1 : (meetP (peerOf S x) e.epoch).1 = true := by unfold meetP; rw [if_neg h0]
    rw [h1, if_pos rfl, if_pos ⟨hm, h0⟩, meet_known]
  ·rw [t2, putP_put, t3]
   unfold afterP
   rw [hmet]
 ·rw [if_neg hm]
  obtain ⟨t1, q, t2, t3⟩ := tail_eq (S := S) (x := x) (e := e) (out := []) ho (by omega)
  have hmet : metP (peerOf S x) e = peerOf S x := if_neg hm
  refine ⟨?_, ?_⟩
  ·rw [t1]
   unfold resent
   have hq : ¬ ((peerOf S x).known < e.epoch ∧ (peerOf S x).known ≠ 0) := fun k => hm k.1
   rw [if_neg hq]
  ·rw [t2, t3]
   unfold afterP
   rw [hmet]
/-- An elder packet, or one that can't be, does nothing. -/
theorem take_old {S : Sm} {x : Int} {e : Ev} (h : rightE e = false ∨ e.epoch < (peerOf S x).known) : (takeM S x e).2.1 = [] ∧ (takeM S x e).2.2.2 = S := by
 unfold takeM
 split
 ·exact ⟨rfl, rfl⟩
 ·split
  ·exact ⟨rfl, rfl⟩
  ·rename_i h1 h2
   rcases h with h | h
   ·exact absurd h h2
   ·rw [if_pos h]
    exact ⟨rfl, rfl⟩
end Go.Proofs.Ytccdpgbmkiapdaa.Ses
