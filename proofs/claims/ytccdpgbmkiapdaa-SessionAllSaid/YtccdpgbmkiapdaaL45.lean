/-
  Layer 14, SessionOnce: the pair's invariant with what the sessions' own words ask. All pure.
  Conditions: none.
-/
import Derived.Test.YtccdpgbmkiapdaaL30
import Derived.Test.YtccdpgbmkiapdaaL38
namespace Go.Proofs.Ytccdpgbmkiapdaa.Ses
set_option maxRecDepth 100000
open Go.RowKit Go.Deep Go.Proofs.Ytccdpgbmkiapdaa.Mem Go.Proofs.Ytccdpgbmkiapdaa.Win
theorem nameB_size (n : Nat) : (nameB n).size = 2 := rfl
theorem takeA {S : Sm} {x : Int} {e : Ev} : ∀ o ∈ (takeM S x e).2.1, o.e.kind = 1 ∨ o.e.pay = ⟨#[]⟩ := by
 have hT : ∀ (S : Sm) (out : List Ot), (∀ o ∈ out, o.e.kind = 1 ∨ o.e.pay = ⟨#[]⟩) → ∀ o ∈ (tailM S x e out).2.1, o.e.kind = 1 ∨ o.e.pay = ⟨#[]⟩ := by
  intro S out h
  have hack : ∀ (a q : Int), ∀ o ∈ out ++ [ackO S x a q], o.e.kind = 1 ∨ o.e.pay = ⟨#[]⟩ := fun a q o hm => by
   rcases List.mem_append.1 hm with hm | hm
   ·exact h o hm
   ·rw [List.mem_singleton.1 hm]
    exact Or.inr rfl
  unfold tailM
  split
  ·exact hack _ _
  ·split
   ·exact h
   ·split
    ·exact hack _ _
    ·exact hack _ _
 have hD : ∀ (kn : Int) (l : List Hd), ∀ o ∈ dataL x S.epoch kn l, o.e.kind = 1 ∨ o.e.pay = ⟨#[]⟩ := fun kn l o hm => Or.inl (data_out hm).2.1
 unfold takeM
 split
 ·exact fun o hm => absurd hm List.not_mem_nil
 ·split
  ·exact fun o hm => absurd hm List.not_mem_nil
  ·split
   ·exact fun o hm => absurd hm List.not_mem_nil
   ·split
    ·refine hT _ _ fun o hm => ?_
     split at hm
     ·exact hD _ _ o hm
     ·exact absurd hm List.not_mem_nil
    ·exact hT _ _ fun o hm => absurd hm List.not_mem_nil
structure PJ (k j : Nat) (P : Pr) : Prop where
 pi : PI k P
 q : ∀ a < 2, Pq (P.s a) j
 sm : ∀ w ∈ P.way, w.e.pay.size ≤ 2
theorem putW_mem {wy : List Wy} {out : List Ot} {w : Wy} (h : w ∈ putW wy out) : w ∈ wy ∨ ∃ o ∈ out, w.e = o.e := by
 rcases List.mem_append.1 (List.mem_of_mem_take h) with h | h
 ·exact Or.inl h
 ·obtain ⟨o, ho, rfl⟩ := List.mem_map.1 h
  exact Or.inr ⟨o, ho, rfl⟩
section
variable {k j : Nat} {P : Pr}
theorem PI.small (h : PI k P) : ∀ r ∈ P.log, r.pay.size = 2 := fun r hr => by
 obtain ⟨n, _, _, e⟩ := h.name r hr
 rw [e]
 exact nameB_size n
theorem q_set {S : Sm} {t : Nat} (h : ∀ a < 2, Pq (P.s a) j) (ht : Pq S (j + 1)) : ∀ a < 2, Pq (setS P.s t S a) (j + 1) := fun a ha => by
 by_cases e : a = t
 ·subst e
  rw [setS_same]
  exact ht
 ·rw [setS_other e]
  exact (h a ha).skip
theorem PJ.come (h : PJ k j P) {i : Nat} {w : Wy} (hw : P.way[i]? = some w) : (comeM P i w).1 = true ∧ PJ k (j + 1) (comeM P i w).2 := by
 obtain ⟨c1, c2⟩ := h.pi.come hw
 obtain ⟨ht, _⟩ := h.pi.way w (List.mem_of_getElem? hw)
 have F := takeF w.e (other_xo ht (h.pi.node _ ht) (h.pi.len _ ht))
 have hA := takeA (S := P.s w.tgt) (x := xo w.tgt) (e := w.e)
 have hs : (comeM P i w).2.s = setS P.s w.tgt (takeM (P.s w.tgt) (xo w.tgt) w.e).2.2.2 := by unfold comeM; dsimp only; split <;> rfl
 have hwy : (comeM P i w).2.way = putW (P.way.eraseIdx i) (takeM (P.s w.tgt) (xo w.tgt) w.e).2.1 := by unfold comeM; dsimp only; split <;> rfl
 refine ⟨c1, c2, ?_, fun v hv => ?_⟩
 ·rw [hs]
  exact q_set h.q ((h.q _ ht).take _ _)
 ·rw [hwy] at hv
  rcases putW_mem hv with hv | ⟨o, ho, e⟩
  ·exact h.sm v (List.mem_of_mem_eraseIdx hv)
  ·rw [e]
   rcases hA o ho with h1 | h1
   ·obtain ⟨_, b, hb, _, e3⟩ := (F.out o ho).2 h1
    rw [e3]
    exact Nat.le_of_eq (h.pi.small _ (h.pi.held _ ht b hb))
   ·rw [h1]
    exact Nat.zero_le _
theorem tick_small (h : PI k P) {a : Nat} (ha : a < 2) : ∀ o ∈ (tickM (P.s a)).1, o.e.pay.size ≤ 2 := fun o hm => by
 have hn := h.node a ha
 have hl := h.len a ha
 obtain ⟨j, p, h1, h2, h3, b, hb, h4, h5⟩ := tickO_mem hm
 have hj : j < 2 := by
  have := (List.getElem?_eq_some_iff.1 h1).1
  omega
 have hja : j ≠ a := fun e => by
  rw [h.lone a ha j p h1 (by rw [hn, e])] at hb
  cases hb
 have hx : ((0 + j : Nat) : Int) + 1 = xo a := by unfold xo; omega
 have hp : peerOf (P.s a) (xo a) = p := by
  unfold peerOf
  rw [← hx, show (((0 + j : Nat) : Int) + 1 - 1).toNat = j by omega, h1]
  rfl
 rw [h5]
 exact Nat.le_of_eq (h.small _ (h.held a ha b (by rw [hp]; exact hb)))
theorem PJ.tick (h : PJ k j P) {a : Nat} (ha : a < 2) : PJ k (j + 1) (tickW P a) := by
 refine ⟨h.pi.tick ha, q_set h.q (h.q a ha).tick, fun v hv => ?_⟩
 rcases putW_mem hv with hv | ⟨o, ho, e⟩
 ·exact h.sm v hv
 ·rw [e]
  exact tick_small h.pi ha o ho
theorem newS_pq {a : Nat} (ha : a < 2) {ep : Int} (h1 : 1 ≤ ep) (h2 : ep ≤ 1099511627776) (j : Nat) : Pq (newS ((a : Int) + 1) 2 ep) j := by
 refine ⟨newS_ok (decide_eq_true (by omega)) _ (by omega), newS_lone _ _ _, newS_near _ _ _, fun p hp => ?_⟩
 rw [List.eq_of_mem_replicate hp]
 exact Nat.zero_le _
theorem PJ.act (h : PJ k j P) (hk : k < 60000) (x : Ac) : (doM P x).1 = true ∧ PJ (k + 1) (j + 1) (doM P x).2 := by
 obtain ⟨c1, c2⟩ := h.pi.act hk x
 refine ⟨c1, c2, ?_, ?_⟩
 ·unfold doM
  split
  ·show ∀ a < 2, Pq ((sendP P (sideOf x.a)).s a) (j + 1)
   have e : (sendP P (sideOf x.a)).s = setS P.s (sideOf x.a) (sendM (P.s (sideOf x.a)) (xo (sideOf x.a)) [nameB (P.sent + 1)]).2.2 := by unfold sendP; dsimp only; split <;> rfl
   rw [e]
   exact q_set h.q ((h.q _ (sideOf_lt _)).send _ (by simp))
  ·split
   ·exact q_set h.q (h.q _ (sideOf_lt _)).tick
   ·split
    ·exact q_set h.q (newS_pq (sideOf_lt _) (by have := h.pi.e0 _ (sideOf_lt x.a); omega) (by have := h.pi.e1 _ (sideOf_lt x.a); omega) _)
    ·split
     ·exact fun a ha => (h.q a ha).skip
     ·rename_i w hw
      split
      ·exact (h.come hw).2.q
      ·split
       ·exact fun a ha => (h.q a ha).skip
       ·split
        ·exact fun a ha => (h.q a ha).skip
        ·exact fun a ha => (h.q a ha).skip
 ·unfold doM
  split
  ·show ∀ w ∈ (sendP P (sideOf x.a)).way, w.e.pay.size ≤ 2
   have F := sendF (S := P.s (sideOf x.a)) (nameB (P.sent + 1)) (other_xo (sideOf_lt _) (h.pi.node _ (sideOf_lt _)) (h.pi.len _ (sideOf_lt _)))
   unfold sendP
   dsimp only
   split
   ·rename_i h0
    intro v hv
    rcases putW_mem hv with hv | ⟨o, ho, e⟩
    ·exact h.sm v hv
    ·rw [e, ((F.2.2.2 h0).2 o ho).2.2.2]
     exact Nat.le_of_eq (nameB_size _)
   ·exact h.sm
  ·split
   ·exact (h.tick (sideOf_lt _)).sm
   ·split
    ·exact h.sm
    ·split
     ·exact h.sm
     ·rename_i w hw
      split
      ·exact (h.come hw).2.sm
      ·split
       ·exact fun v hv => h.sm v (List.mem_of_mem_eraseIdx hv)
       ·split
        ·intro v hv
         rcases List.mem_append.1 hv with hv | hv
         ·exact h.sm v hv
         ·rw [List.mem_singleton.1 hv]
          exact h.sm w (List.mem_of_getElem? hw)
        ·exact h.sm
end
end Go.Proofs.Ytccdpgbmkiapdaa.Ses
