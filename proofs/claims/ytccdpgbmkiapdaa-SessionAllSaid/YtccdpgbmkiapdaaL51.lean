/-
  Layer 14, SessionAll: epochs on the way and what is known of them. All pure.
  Conditions: none.
-/
import Derived.Test.YtccdpgbmkiapdaaL50
namespace Go.Proofs.Ytccdpgbmkiapdaa.Ses
set_option maxRecDepth 100000
open Go.RowKit Go.Deep Go.Proofs.Ytccdpgbmkiapdaa.Mem Go.Proofs.Ytccdpgbmkiapdaa.Win
abbrev pk (P : Pr) (a : Nat) : Pm := peerOf (P.s a) (xo a)
/-- No packet's epoch, and nothing that is known, is above the epochs now. -/
structure CI (P : Pr) : Prop where
 kn : ∀ a < 2, (pk P a).known ≤ (P.s (1 - a)).epoch
 wy : ∀ w ∈ P.way, rightE w.e = true ∧ w.e.epoch ≤ (P.s (1 - w.tgt)).epoch
theorem peer_pok {N : Int} {S : Sm} (h : Sok N S) (x : Int) (ho : other S x = true) : Pok N (peerOf S x) := by
 unfold other at ho
 have h1 := of_decide_eq_true ho
 have hl : (x - 1).toNat < S.peers.length := by omega
 unfold peerOf
 rw [List.getElem?_eq_getElem hl, Option.getD_some]
 exact h.peers _ (List.getElem_mem hl)
theorem data_right {E kn x N : Int} {l : List Hd} (h1 : 1 ≤ E) (h2 : E ≤ 1099511627776) (h3 : 0 ≤ kn) (h4 : kn ≤ 1099511627776) (hN : N ≤ 1099511627776) (hl : ∀ b ∈ l, Hok N b) {o : Ot} (ho : o ∈ dataL x E kn l) :
  rightE o.e = true ∧ o.e.kind = 1 ∧ o.e.epoch = E ∧ o.e.peer = kn ∧ o.dst = x ∧ ∃ b ∈ l, o.e.seq = b.seq := by
 obtain ⟨b, hb, rfl⟩ := List.mem_map.1 ho
 have k := hl b hb
 exact ⟨decide_eq_true ⟨h1, h2, h3, h4, Or.inl ⟨rfl, k.s0, Int.le_trans k.s1 hN, k.p1⟩⟩, rfl, rfl, rfl, rfl, b, hb, rfl⟩
theorem ack_right {E kn q x : Int} (h1 : 1 ≤ E) (h2 : E ≤ 1099511627776) (h3 : 0 ≤ kn) (h4 : kn ≤ 1099511627776) (h5 : 0 ≤ q) (h6 : q ≤ 1099511627776) : rightE (⟨x, 2, E, kn, q, ⟨#[]⟩⟩ : Ot).e = true :=
 decide_eq_true ⟨h1, h2, h3, h4, Or.inr ⟨rfl, h5, h6, rfl⟩⟩
theorem metP_held {N : Int} {p : Pm} {e : Ev} (h : ∀ b ∈ p.held, Hok N b) : ∀ b ∈ (metP p e).held, Hok N b := by
 unfold metP
 split
 ·unfold meetP
  split
  ·exact h
  ·intro b hb
   obtain ⟨c, hc, rfl⟩ := List.mem_map.1 hb
   have k := h c hc
   exact ⟨k.s0, k.s1, by show (1 : Int) ≤ 4; decide, by show (4 : Int) ≤ 16; decide, by show (1 : Int) ≤ 4; decide, by show (4 : Int) ≤ 16; decide, k.p1⟩
 ·exact h
/-- What goes out for a packet that may be: right, of the receiver's epoch, to the sender. -/
theorem out_right {N E x : Int} {p : Pm} {e : Ev} (hp : Pok N p) (hN : N ≤ 1099511627776) (h1 : 1 ≤ E) (h2 : E ≤ 1099511627776) (hr : rightE e = true) {o : Ot} (ho : o ∈ resent E x p e ++ ackL E x e) :
  rightE o.e = true ∧ o.e.epoch = E ∧ o.e.peer = e.epoch ∧ o.dst = x := by
 have hr2 := of_decide_eq_true hr
 rcases List.mem_append.1 ho with ho | ho
 ·unfold resent at ho
  split at ho
  ·obtain ⟨k1, _, k2, k3, k4, _⟩ := data_right h1 h2 (by omega) hr2.2.1 hN (metP_held hp.held) ho
   exact ⟨k1, k2, k3, k4⟩
  ·cases ho
 ·unfold ackL at ho
  split at ho
  ·rw [List.mem_singleton.1 ho]
   exact ⟨ack_right (x := x) h1 h2 (by omega) hr2.2.1 (by decide) (by decide), rfl, rfl, rfl⟩
  ·split at ho
   ·cases ho
   ·rw [List.mem_singleton.1 ho]
    exact ⟨ack_right (x := x) h1 h2 (by omega) hr2.2.1 (by omega) (by omega), rfl, rfl, rfl⟩
theorem afterP_known {E : Int} {p : Pm} {e : Ev} (h : p.known ≤ e.epoch) : (afterP E p e).known = e.epoch := by
 have hm := metP_known h
 unfold afterP
 split
 ·exact hm
 ·split
  ·split
   ·exact hm
   ·exact hm
  ·split
   ·exact hm
   ·exact hm
section
variable {k j : Nat} {P : Pr}
/-- What a packet does that comes. -/
structure Step (P : Pr) (w : Wy) (r : List Wy) (P' : Pr) (outs : List Ot) (p' : Pm) : Prop where
 way : P'.way = putW r outs
 ep : ∀ a < 2, (P'.s a).epoch = (P.s a).epoch
 pt : pk P' w.tgt = p'
 po : pk P' (1 - w.tgt) = pk P (1 - w.tgt)
theorem come_step (h : PJ k j P) {i : Nat} {w : Wy} (hw : P.way[i]? = some w) :
  Step P w (P.way.eraseIdx i) (comeM P i w).2 (takeM (P.s w.tgt) (xo w.tgt) w.e).2.1 (peerOf (takeM (P.s w.tgt) (xo w.tgt) w.e).2.2.2 (xo w.tgt)) := by
 obtain ⟨ht, _⟩ := h.pi.way w (List.mem_of_getElem? hw)
 have F := takeF w.e (other_xo ht (h.pi.node _ ht) (h.pi.len _ ht))
 have hs : (comeM P i w).2.s = setS P.s w.tgt (takeM (P.s w.tgt) (xo w.tgt) w.e).2.2.2 := by unfold comeM; dsimp only; split <;> rfl
 have hwy : (comeM P i w).2.way = putW (P.way.eraseIdx i) (takeM (P.s w.tgt) (xo w.tgt) w.e).2.1 := by unfold comeM; dsimp only; split <;> rfl
 refine ⟨hwy, fun a ha => ?_, ?_, ?_⟩
 ·rw [hs]
  by_cases e : a = w.tgt
  ·rw [e, setS_same]
   exact F.fix.epoch
  ·rw [setS_other e]
 ·unfold pk
  rw [hs, setS_same]
 ·unfold pk
  rw [hs, setS_other (by omega)]
/-- The two ways that it can go. -/
theorem come_two (h : PJ k j P) (hc : CI P) {i : Nat} {w : Wy} (hw : P.way[i]? = some w) :
  (w.e.epoch < (pk P w.tgt).known ∧ Step P w (P.way.eraseIdx i) (comeM P i w).2 [] (pk P w.tgt)) ∨
  ((pk P w.tgt).known ≤ w.e.epoch ∧ Step P w (P.way.eraseIdx i) (comeM P i w).2 (resent (P.s w.tgt).epoch (xo w.tgt) (pk P w.tgt) w.e ++ ackL (P.s w.tgt).epoch (xo w.tgt) w.e) (afterP (P.s w.tgt).epoch (pk P w.tgt) w.e)) := by
 have S := come_step h hw
 obtain ⟨ht, _⟩ := h.pi.way w (List.mem_of_getElem? hw)
 have ho := other_xo ht (h.pi.node _ ht) (h.pi.len _ ht)
 by_cases e : w.e.epoch < (pk P w.tgt).known
 ·obtain ⟨t1, t2⟩ := take_old (S := P.s w.tgt) (x := xo w.tgt) (e := w.e) (Or.inr e)
  rw [t1, t2] at S
  exact Or.inl ⟨e, S⟩
 ·have hk : (pk P w.tgt).known ≤ w.e.epoch := by omega
  obtain ⟨t1, t2⟩ := take_eq ho (hc.wy w (List.mem_of_getElem? hw)).1 hk
  rw [t1, t2, peer_put ho] at S
  exact Or.inr ⟨hk, S⟩
theorem tgt_xo {t : Nat} (ht : t < 2) {o : Ot} (h : o.dst = xo t) : (o.dst - 1).toNat = 1 - t := by rw [h]; unfold xo; omega
theorem PJ.bound (h : PJ k j P) (hj : j ≤ 1000000) {a : Nat} (ha : a < 2) : Pok ((1000 + 80 * j : Nat) : Int) (pk P a) ∧ ((1000 + 80 * j : Nat) : Int) ≤ 1099511627776 ∧ 1 ≤ (P.s a).epoch ∧ (P.s a).epoch ≤ 1099511627776 :=
 ⟨peer_pok (h.q a ha).ok _ (other_xo ha (h.pi.node _ ha) (h.pi.len _ ha)), by omega, (h.q a ha).ok.e0, (h.q a ha).ok.e1⟩
theorem CI.of_step (hc : CI P) {w : Wy} {r : List Wy} (ht : w.tgt < 2) (hr : ∀ v ∈ r, v ∈ P.way) {P' : Pr} {outs : List Ot} {p' : Pm} (S : Step P w r P' outs p')
  (ho : ∀ o ∈ outs, rightE o.e = true ∧ o.e.epoch = (P.s w.tgt).epoch ∧ o.dst = xo w.tgt) (hp : p'.known ≤ (P.s (1 - w.tgt)).epoch) : CI P' := by
 refine ⟨fun a ha => ?_, fun v hv => ?_⟩
 ·rw [S.ep _ (by omega)]
  by_cases e : a = w.tgt
  ·rw [e, S.pt]
   exact hp
  ·have e2 : a = 1 - w.tgt := by omega
   rw [e2, S.po]
   exact hc.kn _ (by omega)
 ·rw [S.way] at hv
  rcases List.mem_append.1 (List.mem_of_mem_take hv) with hv | hv
  ·have h9 := hc.wy v (hr v hv)
   rw [S.ep _ (by omega)]
   exact h9
  ·obtain ⟨o, hm, rfl⟩ := List.mem_map.1 hv
   obtain ⟨h1, h2, h3⟩ := ho o hm
   refine ⟨h1, ?_⟩
   show o.e.epoch ≤ ((P'.s (1 - (o.dst - 1).toNat)).epoch)
   rw [tgt_xo ht h3, show 1 - (1 - w.tgt) = w.tgt by omega, S.ep _ ht, h2]
   exact Int.le_refl _
theorem CI.come (h : PJ k j P) (hj : j ≤ 1000000) (hc : CI P) {i : Nat} {w : Wy} (hw : P.way[i]? = some w) : CI (comeM P i w).2 := by
 obtain ⟨ht, _⟩ := h.pi.way w (List.mem_of_getElem? hw)
 have hm := List.mem_of_getElem? hw
 obtain ⟨b1, b2, b3, b4⟩ := h.bound hj ht
 rcases come_two h hc hw with ⟨_, S⟩ | ⟨hk, S⟩
 ·exact CI.of_step hc ht (fun v hv => List.mem_of_mem_eraseIdx hv) S (fun o ho => by cases ho) (hc.kn _ ht)
 ·refine CI.of_step hc ht (fun v hv => List.mem_of_mem_eraseIdx hv) S (fun o ho => ?_) ?_
  ·obtain ⟨k1, k2, _, k3⟩ := out_right b1 b2 b3 b4 (hc.wy w hm).1 ho
   exact ⟨k1, k2, k3⟩
  ·rw [afterP_known hk]
   exact (hc.wy w hm).2
end
end Go.Proofs.Ytccdpgbmkiapdaa.Ses
