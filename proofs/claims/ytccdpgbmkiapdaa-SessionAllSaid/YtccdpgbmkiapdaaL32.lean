/-
  Layer 14, the document's session: one of its peers turns.
  Conditions: none.
-/
import Derived.Test.YtccdpgbmkiapdaaL31
namespace Go.Proofs.Ytccdpgbmkiapdaa.Ses
set_option maxRecDepth 100000
open Go.RowKit Go.Deep Go.Proofs.Ytccdpgbmkiapdaa.Mem Go.Proofs.Ytccdpgbmkiapdaa.Win
/-- A peer of the document's turns (Q: blocks of the call's own): its cells at place o of block pb, its numbers at A, its payloads at D. -/
structure RPStep (Q : Nat → Prop) (B pb o : Nat) (A D : Option Addr) (w : World) (p' : Pm) (A' : Option Addr) (ac' : Nat) (D' : Option Addr) (dc' : Nat) (w' : World) : Prop where
 cel : CellsO w' pb o (rpv p' A' ac' D' dc')
 rows : RRows B w' p' A' ac' D' dc'
 only : Only (fun k => k = pb ∨ some k = blk A) w w'
 keeps : Keeps pb o 4 w w'
 newA : ∀ k, blk A' = some k → some k = blk A ∨ Q k
 newD : ∀ k, blk D' = some k → some k = blk D ∨ Q k
 off : ∀ k, blk A' = some k → blk D' = some k → False
section
variable {B rb pb pc : Nat} {F T : Nat → Prop} {w w1 w' : World} {S S' : Sm} {As Ds : Nat → Option Addr} {cs ds : Nat → Nat}
theorem RAtX.step (h : RAtX B F w rb S pb pc As cs Ds ds) {i : Nat} (hi : i < S.peers.length) {p' : Pm} {A' D' : Option Addr} {ac' dc' : Nat} {Q : Nat → Prop} (hp : RPStep Q B pb (i * 4) (As i) (Ds i) w p' A' ac' D' dc' w') (hQ : ∀ k, Q k → ¬ F k) :
  RAtX B (fun k => F k ∨ Q k ∧ (some k = blk A' ∨ some k = blk D')) w' rb { S with peers := S.peers.set i p' } pb pc (fun j => if j = i then A' else As j) (fun j => if j = i then ac' else cs j) (fun j => if j = i then D' else Ds j) (fun j => if j = i then dc' else ds j) ∧ Only F w w' := by
 have hF : ∀ k, (k = pb ∨ some k = blk (As i)) → F k := fun k e => by
  rcases e with e | e
  ·rw [e]; exact h.fp
  ·exact h.fA i k hi e.symm
 have hrb : ¬ (rb = pb ∨ some rb = blk (As i)) := fun e => by
  rcases e with e | e
  ·exact h.sp e
  ·exact (h.sA i rb hi e.symm).1 rfl
 have ltA : ∀ k, blk A' = some k → B ≤ k ∧ k < w'.heap.size := fun k e => hp.rows.win.lt k (by rw [own_blk]; exact e)
 have ltD : ∀ k, blk D' = some k → B ≤ k ∧ k < w'.heap.size := fun k e => hp.rows.row.lt k (by rw [own_blk]; exact e)
 refine ⟨⟨?_, fun j hj => ?_, fun j l k hj hl e1 e2 => ?_, fun j l k hj hl e1 e2 => ?_, Or.inl h.fs, Or.inl h.fp, fun j k hj e => ?_, fun j k hj e => ?_, h.sp, fun j k hj e => ?_, fun j k hj e => ?_, fun k e => ?_, fun k e => ?_, ?_⟩, hp.only.mono fun k _ e => hF k e⟩
 ·simp only [List.length_set]
  exact cells_only h.cel hp.only hrb
 ·simp only [List.length_set] at hj
  by_cases e : j = i
  ·subst e
   simp only [if_true, List.getElem_set_self]
   exact ⟨hp.cel, hp.rows⟩
  ·simp only [if_neg e, List.getElem_set_ne (fun e2 : i = j => e e2.symm)]
   refine ⟨hp.keeps _ _ (by simp only [rpv, List.length_cons, List.length_nil]; omega) (h.peer j hj).1, (h.peer j hj).2.only hp.only (fun k e2 e3 => ?_) fun k e2 e3 => ?_⟩
   ·rcases e3 with e3 | e3
    ·exact (h.sA j k hj e2).2 e3
    ·exact e (h.apart j i k hj hi e2 e3.symm)
   ·rcases e3 with e3 | e3
    ·exact (h.sD j k hj e2).2 e3
    ·exact h.off i j k hi hj e3.symm e2
 ·simp only [List.length_set] at hj hl
  by_cases ej : j = i
  ·by_cases el : l = i
   ·omega
   ·rw [if_pos ej] at e1
    rw [if_neg el] at e2
    rcases hp.newA k e1 with e3 | e3
    ·exact absurd (h.apart l i k hl hi e2 e3.symm) el
    ·exact (hQ k e3 (h.fA l k hl e2)).elim
  ·rw [if_neg ej] at e1
   by_cases el : l = i
   ·rw [if_pos el] at e2
    rcases hp.newA k e2 with e3 | e3
    ·exact absurd (h.apart j i k hj hi e1 e3.symm) ej
    ·exact (hQ k e3 (h.fA j k hj e1)).elim
   ·rw [if_neg el] at e2
    exact h.apart j l k hj hl e1 e2
 ·simp only [List.length_set] at hj hl
  by_cases ej : j = i
  ·rw [if_pos ej] at e1
   by_cases el : l = i
   ·rw [if_pos el] at e2
    exact hp.off k e1 e2
   ·rw [if_neg el] at e2
    rcases hp.newA k e1 with e3 | e3
    ·exact h.off i l k hi hl e3.symm e2
    ·exact (hQ k e3 (h.fD l k hl e2)).elim
  ·rw [if_neg ej] at e1
   by_cases el : l = i
   ·rw [if_pos el] at e2
    rcases hp.newD k e2 with e3 | e3
    ·exact h.off j i k hj hi e1 e3.symm
    ·exact (hQ k e3 (h.fA j k hj e1)).elim
   ·rw [if_neg el] at e2
    exact h.off j l k hj hl e1 e2
 ·simp only [List.length_set] at hj
  by_cases ej : j = i
  ·rw [if_pos ej] at e
   rcases hp.newA k e with e3 | e3
   ·exact Or.inl (h.fA i k hi e3.symm)
   ·exact Or.inr ⟨e3, Or.inl e.symm⟩
  ·rw [if_neg ej] at e
   exact Or.inl (h.fA j k hj e)
 ·simp only [List.length_set] at hj
  by_cases ej : j = i
  ·rw [if_pos ej] at e
   rcases hp.newD k e with e3 | e3
   ·exact Or.inl (h.fD i k hi e3.symm)
   ·exact Or.inr ⟨e3, Or.inr e.symm⟩
  ·rw [if_neg ej] at e
   exact Or.inl (h.fD j k hj e)
 ·simp only [List.length_set] at hj
  by_cases ej : j = i
  ·rw [if_pos ej] at e
   rcases hp.newA k e with e3 | e3
   ·exact h.sA i k hi e3.symm
   ·exact ⟨fun e4 => hQ k e3 (by rw [e4]; exact h.fs), fun e4 => hQ k e3 (by rw [e4]; exact h.fp)⟩
  ·rw [if_neg ej] at e
   exact h.sA j k hj e
 ·simp only [List.length_set] at hj
  by_cases ej : j = i
  ·rw [if_pos ej] at e
   rcases hp.newD k e with e3 | e3
   ·exact h.sD i k hi e3.symm
   ·exact ⟨fun e4 => hQ k e3 (by rw [e4]; exact h.fs), fun e4 => hQ k e3 (by rw [e4]; exact h.fp)⟩
  ·rw [if_neg ej] at e
   exact h.sD j k hj e
 ·rcases e with e | ⟨_, e2 | e2⟩
  ·exact h.low k e
  ·exact (ltA k e2.symm).1
  ·exact (ltD k e2.symm).1
 ·rcases e with e | ⟨e, e2 | e2⟩
  ·exact Nat.lt_of_lt_of_le (h.lt k e) hp.only.size
  ·exact (ltA k e2.symm).2
  ·exact (ltD k e2.symm).2
 ·simp only [List.length_set]
  exact h.cap
/-- Behind what a call did already one of its peers turns. -/
theorem RStep.put {F0 : Nat → Prop} {w0 : World} {B : Nat} (h0 : RStep B F0 w0 rb S F w) (h : RAtX B F w rb S pb pc As cs Ds ds) {i : Nat} (hi : i < S.peers.length) {p' : Pm} {A' D' : Option Addr} {ac' dc' : Nat}
  (hp : RPStep (fun k => w0.heap.size ≤ k ∧ ¬ F k) B pb (i * 4) (As i) (Ds i) w p' A' ac' D' dc' w') :
  ∃ F', (RStep B F0 w0 rb { S with peers := S.peers.set i p' } F' w' ∧ (∀ k, F' k → F k ∨ blk A' = some k ∨ blk D' = some k)) ∧
   RAtX B F' w' rb { S with peers := S.peers.set i p' } pb pc (fun j => if j = i then A' else As j) (fun j => if j = i then ac' else cs j) (fun j => if j = i then D' else Ds j) (fun j => if j = i then dc' else ds j) ∧ Only F w w' := by
 obtain ⟨h1, h2⟩ := h.step hi hp fun k e => e.2
 refine ⟨_, ⟨⟨⟨_, _, _, _, _, _, h1⟩, h0.only.trans h2 fun k hk e => (h0.new k e).resolve_right (by omega), fun k e => ?_⟩, fun k e => ?_⟩, h1, h2⟩
 ·rcases e with e | e
  ·exact h0.new k e
  ·exact Or.inr e.1.1
 ·rcases e with e | ⟨_, e | e⟩
  ·exact Or.inl e
  ·exact Or.inr (Or.inl e.symm)
  ·exact Or.inr (Or.inr e.symm)
end
end Go.Proofs.Ytccdpgbmkiapdaa.Ses
