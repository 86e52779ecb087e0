/-
  Layer 14, SessionAll: every act keeps what is so of the epochs; what a tick and a sending do. All pure.
  Conditions: none.
-/
import Derived.Test.YtccdpgbmkiapdaaL52
namespace Go.Proofs.Ytccdpgbmkiapdaa.Ses
set_option maxRecDepth 100000
open Go.RowKit Go.Deep Go.Proofs.Ytccdpgbmkiapdaa.Mem Go.Proofs.Ytccdpgbmkiapdaa.Win
theorem due_ok {N : Int} {l : List Hd} (h : ∀ b ∈ l, Hok N b) : ∀ b ∈ dueL l, Hok N b := fun b hb => by
 obtain ⟨c, hc, rfl⟩ := List.mem_map.1 hb
 exact tickH_ok (h c (List.mem_filter.1 hc).1)
theorem fresh_pk (a : Nat) (ep x : Int) : peerOf (newS ((a : Int) + 1) 2 ep) x = freshP := by
 unfold peerOf
 cases hq : (newS ((a : Int) + 1) 2 ep).peers[(x - 1).toNat]? with
 | none => rfl
 | some q =>
  rw [Option.getD_some, List.eq_of_mem_replicate (List.mem_of_getElem? (show (List.replicate (2 : Int).toNat freshP)[(x - 1).toNat]? = some q from hq))]
section
variable {k j : Nat} {P : Pr}
theorem tick_two (h : PI k P) {a : Nat} (ha : a < 2) : (tickM (P.s a)).1 = dataL (xo a) (P.s a).epoch (pk P a).known (dueL (pk P a).held) := by
 have hn := h.node a ha
 have hl := h.len a ha
 have hlone := h.lone a ha
 show tickO (P.s a).epoch 0 (P.s a).peers = _
 unfold pk peerOf
 match hp : (P.s a).peers, hl with
 | [p0, p1], _ =>
  rcases (show a = 0 ∨ a = 1 by omega) with e | e
  ·have h0 : p0.held = [] := hlone 0 p0 (by rw [hp]; rfl) (by rw [hn, e])
   subst e
   show dataL _ _ _ (dueL p0.held) ++ (dataL _ _ _ (dueL p1.held) ++ []) = _
   rw [h0, List.append_nil]
   rfl
  ·have h0 : p1.held = [] := hlone 1 p1 (by rw [hp]; rfl) (by rw [hn, e])
   subst e
   show dataL _ _ _ (dueL p0.held) ++ (dataL _ _ _ (dueL p1.held) ++ []) = _
   rw [h0]
   show _ ++ ([] ++ []) = _
   rw [List.append_nil, List.append_nil]
   rfl
theorem Step.tick (h : PI k P) {a : Nat} (ha : a < 2) (e : Ev) : Step P ⟨a, e⟩ P.way (tickW P a) (dataL (xo a) (P.s a).epoch (pk P a).known (dueL (pk P a).held)) (tickP (pk P a)).2 := by
 refine ⟨?_, fun b hb => ?_, ?_, ?_⟩
 ·show putW P.way (tickM (P.s a)).1 = _
  rw [tick_two h ha]
 ·show (setS P.s a (tickM (P.s a)).2 b).epoch = _
  by_cases e : b = a
  ·rw [e, setS_same]
   rfl
  ·rw [setS_other e]
 ·show peerOf (setS P.s a (tickM (P.s a)).2 a) (xo a) = _
  rw [setS_same, tick_peer]
 ·show peerOf (setS P.s a (tickM (P.s a)).2 (1 - a)) (xo (1 - a)) = _
  rw [setS_other (by omega)]
theorem CI.tick (h : PJ k j P) (hj : j ≤ 1000000) (hc : CI P) {a : Nat} (ha : a < 2) : CI (tickW P a) := by
 obtain ⟨b1, b2, b3, b4⟩ := h.bound hj ha
 have S := Step.tick h.pi ha ⟨0, 0, 0, 0, ⟨#[]⟩⟩
 refine CI.of_step hc ha (fun v hv => hv) S (fun o ho => ?_) (hc.kn a ha)
 obtain ⟨k1, _, k2, _, k3, _⟩ := data_right b3 b4 b1.k0 b1.k1 b2 (due_ok b1.held) ho
 exact ⟨k1, k2, k3⟩
theorem CI.send (h : PJ k j P) (hj : j ≤ 1000000) (hc : CI P) {a : Nat} (ha : a < 2) : CI (sendP P a) := by
 obtain ⟨b1, b2, b3, b4⟩ := h.bound hj ha
 have ho := other_xo ha (h.pi.node _ ha) (h.pi.len _ ha)
 obtain ⟨f1, f2, f3, f4⟩ := sendF (nameB (P.sent + 1)) ho
 have hs : (sendP P a).s = setS P.s a (sendM (P.s a) (xo a) [nameB (P.sent + 1)]).2.2 := by unfold sendP; dsimp only; split <;> rfl
 have hw : (sendP P a).way = putW P.way (sendM (P.s a) (xo a) [nameB (P.sent + 1)]).1 := by
  unfold sendP
  dsimp only
  split
  ·rfl
  ·rename_i h0
   rw [(f3 h0).2]
   show P.way = (P.way ++ []).take 300
   rw [List.append_nil, List.take_of_length_le h.pi.few]
 have S : Step P ⟨a, ⟨0, 0, 0, 0, ⟨#[]⟩⟩⟩ P.way (sendP P a) (sendM (P.s a) (xo a) [nameB (P.sent + 1)]).1 (peerOf (sendM (P.s a) (xo a) [nameB (P.sent + 1)]).2.2 (xo a)) := by
  refine ⟨hw, fun b hb => ?_, ?_, ?_⟩
  ·rw [hs]
   by_cases e : b = a
   ·rw [e, setS_same]
    exact f1.epoch
   ·rw [setS_other e]
  ·show peerOf ((sendP P a).s a) (xo a) = _
   rw [hs, setS_same]
  ·show peerOf ((sendP P a).s (1 - a)) (xo (1 - a)) = _
   rw [hs, setS_other (by omega)]
 have hkn : (peerOf (sendM (P.s a) (xo a) [nameB (P.sent + 1)]).2.2 (xo a)).known = (pk P a).known := by
  unfold sendM
  split
  ·rfl
  ·split
   ·rfl
   ·split
    ·rfl
    ·rw [peer_put ho]
     rfl
 refine CI.of_step hc ha (fun v hv => hv) S (fun o hm => ?_) (by rw [hkn]; exact hc.kn a ha)
 have hm2 : o ∈ dataL (xo a) (P.s a).epoch (pk P a).known (newHd (pk P a).last [nameB (P.sent + 1)]) := by
  revert hm
  unfold sendM
  split
  ·intro hm; cases hm
  ·split
   ·intro hm; cases hm
   ·split
    ·intro hm; cases hm
    ·exact fun hm => hm
 have hl0 := b1.l0
 have hl1 := b1.l1
 have hN : ((1000 + 80 * j : Nat) : Int) + 1 ≤ 1099511627776 := by omega
 obtain ⟨k1, _, k2, _, k3, _⟩ := data_right (N := ((1000 + 80 * j : Nat) : Int) + 1) b3 b4 b1.k0 b1.k1 hN (fun b hb => by
  rw [List.mem_singleton.1 (show b ∈ [(⟨(pk P a).last + 1, nameB (P.sent + 1), 4, 4⟩ : Hd)] from hb)]
  exact ⟨by show (1 : Int) ≤ (pk P a).last + 1; omega, by show (pk P a).last + 1 ≤ _; omega, by show (1 : Int) ≤ 4; decide, by show (4 : Int) ≤ 16; decide, by show (1 : Int) ≤ 4; decide, by show (4 : Int) ≤ 16; decide, by show (nameB (P.sent + 1)).size ≤ 4032; rw [nameB_size]; decide⟩) hm2
 exact ⟨k1, k2, k3⟩
theorem CI.anew (hc : CI P) {a : Nat} (ha : a < 2) (h : PI k P) : CI (anewP P a) := by
 have hb : ∀ b < 2, (P.s b).epoch ≤ ((anewP P a).s b).epoch := fun b hb => by
  show _ ≤ (setS P.s a (newS ((a : Int) + 1) 2 ((P.s a).epoch + 1)) b).epoch
  by_cases e : b = a
  ·rw [e, setS_same]
   show (P.s a).epoch ≤ (P.s a).epoch + 1
   omega
  ·rw [setS_other e]
   exact Int.le_refl _
 refine ⟨fun b h2 => ?_, fun v hv => ?_⟩
 ·by_cases e : b = a
  ·have : pk (anewP P a) b = freshP := by
    show peerOf (setS P.s a (newS ((a : Int) + 1) 2 ((P.s a).epoch + 1)) b) (xo b) = _
    rw [e, setS_same, fresh_pk]
   rw [this]
   have h3 := h.e0 (1 - b) (by omega)
   have h4 := hb (1 - b) (by omega)
   show (0 : Int) ≤ _
   omega
  ·have : pk (anewP P a) b = pk P b := by
    show peerOf (setS P.s a (newS ((a : Int) + 1) 2 ((P.s a).epoch + 1)) b) (xo b) = _
    rw [setS_other e]
   rw [this]
   exact Int.le_trans (hc.kn b h2) (hb (1 - b) (by omega))
 ·obtain ⟨h3, h4⟩ := hc.wy v hv
  exact ⟨h3, Int.le_trans h4 (hb _ (by omega))⟩
theorem CI.way' (hc : CI P) {wy : List Wy} (hs : ∀ w ∈ wy, w ∈ P.way) : CI { P with way := wy } := ⟨hc.kn, fun w hw => hc.wy w (hs w hw)⟩
theorem CI.act (h : PJ k j P) (hj : j ≤ 1000000) (hc : CI P) (x : Ac) : CI (doM P x).2 := by
 unfold doM
 split
 ·exact hc.send h hj (sideOf_lt _)
 ·split
  ·exact hc.tick h hj (sideOf_lt _)
  ·split
   ·exact hc.anew (sideOf_lt _) h.pi
   ·split
    ·exact hc
    ·rename_i w hw
     split
     ·exact hc.come h hj hw
     ·split
      ·exact hc.way' fun v hv => List.mem_of_mem_eraseIdx hv
      ·split
       ·refine hc.way' fun v hv => ?_
        rcases List.mem_append.1 hv with hv | hv
        ·exact hv
        ·rw [List.mem_singleton.1 hv]
         exact List.mem_of_getElem? hw
       ·exact hc
theorem CI.start : CI meetS := by
 refine ⟨fun a ha => ?_, fun w hw => absurd hw List.not_mem_nil⟩
 have : pk meetS a = freshP := fresh_pk a 1 (xo a)
 rw [this]
 show (0 : Int) ≤ 1
 decide
end
end Go.Proofs.Ytccdpgbmkiapdaa.Ses
