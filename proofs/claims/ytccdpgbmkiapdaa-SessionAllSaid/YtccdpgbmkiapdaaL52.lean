/-
  Layer 14, SessionAll: the way runs dry when the first packet comes each time. All pure.
  Conditions: none.
-/
import Derived.Test.YtccdpgbmkiapdaaL51
namespace Go.Proofs.Ytccdpgbmkiapdaa.Ses
set_option maxRecDepth 100000
open Go.RowKit Go.Deep Go.Proofs.Ytccdpgbmkiapdaa.Mem Go.Proofs.Ytccdpgbmkiapdaa.Win
/-- How much is still to come of a packet. -/
def wt (E0 E1 : Int) (w : Wy) : Nat := if w.e.kind = 2 ∧ staleB (if w.tgt = 0 then E0 else E1) w.e = false then 1 else 2
def fl (P : Pr) (a : Nat) : Nat := if (pk P a).known < (P.s (1 - a)).epoch then 64 else 0
def sumW (E0 E1 : Int) (l : List Wy) : Nat := (l.map (wt E0 E1)).sum
def psi (P : Pr) : Nat := sumW (P.s 0).epoch (P.s 1).epoch P.way + fl P 0 + fl P 1
/-- Behind the first n, all are of their senders' epochs now. -/
def Curr (P : Pr) (n : Nat) : Prop := ∀ w ∈ P.way.drop n, w.e.epoch = (P.s (1 - w.tgt)).epoch
theorem wt_le (E0 E1 : Int) (w : Wy) : wt E0 E1 w ≤ 2 := by
 unfold wt
 generalize (if w.tgt = 0 then E0 else E1) = E
 split <;> omega
theorem wt_pos (E0 E1 : Int) (w : Wy) : 1 ≤ wt E0 E1 w := by
 unfold wt
 generalize (if w.tgt = 0 then E0 else E1) = E
 split <;> omega
section
variable {E0 E1 : Int}
theorem sumW_cons (w : Wy) (l : List Wy) : sumW E0 E1 (w :: l) = wt E0 E1 w + sumW E0 E1 l := by
 unfold sumW
 rw [List.map_cons, List.sum_cons]
theorem sumW_app (l r : List Wy) : sumW E0 E1 (l ++ r) = sumW E0 E1 l + sumW E0 E1 r := by
 unfold sumW
 rw [List.map_append, List.sum_append]
theorem sumW_le (l : List Wy) : sumW E0 E1 l ≤ 2 * l.length := by
 induction l with
 | nil => exact Nat.le_refl _
 | cons w l ih =>
  rw [sumW_cons, List.length_cons]
  have := wt_le E0 E1 w
  omega
theorem sumW_take (l : List Wy) : ∀ n, sumW E0 E1 (l.take n) ≤ sumW E0 E1 l := by
 induction l with
 | nil => intro n; rw [List.take_nil]; exact Nat.le_refl _
 | cons w l ih =>
  intro n
  cases n with
  | zero => exact Nat.zero_le _
  | succ n =>
   rw [List.take_succ_cons, sumW_cons, sumW_cons]
   have := ih n
   omega
end
theorem fl_le (P : Pr) (a : Nat) : fl P a ≤ 64 := by unfold fl; split <;> omega
theorem ev_eq (s : Nat → Sm) {t : Nat} (ht : t < 2) : (if t = 0 then (s 0).epoch else (s 1).epoch) = (s t).epoch := by
 match t, ht with
 | 0, _ => rfl
 | 1, _ => rfl
section
variable {k j : Nat} {P : Pr}
def wayOf (outs : List Ot) : List Wy := outs.map fun o => (⟨(o.dst - 1).toNat, o.e⟩ : Wy)
theorem Curr.of_step {w : Wy} {r : List Wy} (ht : w.tgt < 2) {P' : Pr} {outs : List Ot} {p' : Pm} (S : Step P w r P' outs p')
  (ho : ∀ o ∈ outs, o.e.epoch = (P.s w.tgt).epoch ∧ o.dst = xo w.tgt) {n : Nat} (hr : ∀ v ∈ r.drop n, v.e.epoch = (P.s (1 - v.tgt)).epoch) : Curr P' n := by
 intro v hv
 rw [S.way] at hv
 unfold putW at hv
 rw [List.drop_take] at hv
 have hv2 := List.mem_of_mem_take hv
 rw [List.drop_append] at hv2
 rcases List.mem_append.1 hv2 with hv | hv
 ·rw [S.ep _ (by omega)]
  exact hr v hv
 ·obtain ⟨o, hm, rfl⟩ := List.mem_map.1 (List.mem_of_mem_drop hv)
  obtain ⟨h2, h3⟩ := ho o hm
  show o.e.epoch = ((P'.s (1 - (o.dst - 1).toNat)).epoch)
  rw [tgt_xo ht h3, show 1 - (1 - w.tgt) = w.tgt by omega, S.ep _ ht, h2]
theorem ack_wt {w : Wy} (ht : w.tgt < 2) (hcu : w.e.epoch = (P.s (1 - w.tgt)).epoch) :
  sumW (P.s 0).epoch (P.s 1).epoch (wayOf (ackL (P.s w.tgt).epoch (xo w.tgt) w.e)) + 1 ≤ wt (P.s 0).epoch (P.s 1).epoch w := by
 have hz : (xo w.tgt - 1).toNat = 1 - w.tgt := by unfold xo; omega
 have one : ∀ q : Int, sumW (P.s 0).epoch (P.s 1).epoch (wayOf [(⟨xo w.tgt, 2, (P.s w.tgt).epoch, w.e.epoch, q, ⟨#[]⟩⟩ : Ot)]) = 1 := fun q => by
  show wt (P.s 0).epoch (P.s 1).epoch ⟨(xo w.tgt - 1).toNat, ⟨2, (P.s w.tgt).epoch, w.e.epoch, q, ⟨#[]⟩⟩⟩ + 0 = 1
  unfold wt
  dsimp only
  rw [hz, ev_eq P.s (by omega), if_pos ⟨rfl, decide_eq_false fun k => k.2 hcu⟩]
 unfold ackL
 by_cases h1 : staleB (P.s w.tgt).epoch w.e = true
 ·rw [if_pos h1, one]
  unfold wt
  rw [ev_eq P.s ht, if_neg (by rw [h1]; simp)]
  exact Nat.le_refl _
 ·rw [if_neg h1]
  by_cases h2 : w.e.kind = 2
  ·rw [if_pos h2]
   exact wt_pos _ _ _
  ·rw [if_neg h2, one]
   unfold wt
   rw [if_neg (fun k => h2 k.1)]
   exact Nat.le_refl _
theorem metP_len (p : Pm) (e : Ev) : (metP p e).held.length = p.held.length := by
 unfold metP
 split
 ·unfold meetP
  split
  ·rfl
  ·exact List.length_map _
 ·rfl
theorem resent_len {E x : Int} {p : Pm} {e : Ev} (h : p.held.length ≤ 32) : (resent E x p e).length ≤ 32 := by
 unfold resent
 split
 ·unfold dataL
  rw [List.length_map, metP_len]
  exact h
 ·exact Nat.zero_le _
/-- The first comes: one elder packet less. -/
theorem drainO (h : PJ k j P) (hj : j ≤ 1000000) (hc : CI P) {w : Wy} (hw : P.way[0]? = some w) {n : Nat} (hq : Curr P (n + 1)) : Curr (comeM P 0 w).2 n := by
 obtain ⟨ht, _⟩ := h.pi.way w (List.mem_of_getElem? hw)
 have hm := List.mem_of_getElem? hw
 obtain ⟨b1, b2, b3, b4⟩ := h.bound hj ht
 have hr : ∀ v ∈ (P.way.eraseIdx 0).drop n, v.e.epoch = (P.s (1 - v.tgt)).epoch := fun v hv => by
  refine hq v ?_
  cases e : P.way with
  | nil => rw [e] at hm; cases hm
  | cons x l => rw [e] at hv; exact hv
 rcases come_two h hc hw with ⟨_, S⟩ | ⟨_, S⟩
 ·exact Curr.of_step ht S (fun o ho => by cases ho) hr
 ·refine Curr.of_step ht S (fun o ho => ?_) hr
  obtain ⟨_, k2, _, k3⟩ := out_right b1 b2 b3 b4 (hc.wy w hm).1 ho
  exact ⟨k2, k3⟩
theorem way_cons {w : Wy} (hw : P.way[0]? = some w) : P.way = w :: P.way.eraseIdx 0 := by
 cases e : P.way with
 | nil => rw [e] at hw; cases hw
 | cons x l =>
  rw [e] at hw
  rw [Option.some.inj hw]
  rfl
/-- All that is on the way behind it, even without a bound on the way. -/
theorem come_sum (h : PJ k j P) (hj : j ≤ 1000000) {w : Wy} (hw : P.way[0]? = some w) (hcu : w.e.epoch = (P.s (1 - w.tgt)).epoch) :
  sumW (P.s 0).epoch (P.s 1).epoch (P.way.eraseIdx 0 ++ wayOf (resent (P.s w.tgt).epoch (xo w.tgt) (pk P w.tgt) w.e ++ ackL (P.s w.tgt).epoch (xo w.tgt) w.e)) + 1 ≤ sumW (P.s 0).epoch (P.s 1).epoch P.way + fl P w.tgt := by
 obtain ⟨ht, _⟩ := h.pi.way w (List.mem_of_getElem? hw)
 obtain ⟨b1, b2, b3, b4⟩ := h.bound hj ht
 have hcons := way_cons hw
 have hack := ack_wt (P := P) ht hcu
 have hold : sumW (P.s 0).epoch (P.s 1).epoch P.way = wt (P.s 0).epoch (P.s 1).epoch w + sumW (P.s 0).epoch (P.s 1).epoch (P.way.eraseIdx 0) := by
  rw [← sumW_cons, ← hcons]
 have hres : sumW (P.s 0).epoch (P.s 1).epoch (wayOf (resent (P.s w.tgt).epoch (xo w.tgt) (pk P w.tgt) w.e)) ≤ fl P w.tgt := by
  by_cases hn : (pk P w.tgt).known < w.e.epoch
  ·unfold fl
   rw [if_pos (by rw [← hcu]; exact hn)]
   refine Nat.le_trans (sumW_le _) ?_
   unfold wayOf
   rw [List.length_map]
   have := resent_len (E := (P.s w.tgt).epoch) (x := xo w.tgt) (e := w.e) b1.len
   omega
  ·unfold resent
   rw [if_neg (fun k => hn k.1)]
   exact Nat.zero_le _
 have happ : ∀ a b : List Ot, wayOf (a ++ b) = wayOf a ++ wayOf b := fun a b => List.map_append
 rw [sumW_app, happ, sumW_app]
 omega
/-- The first comes, all are of their senders' epochs: less is to come. -/
theorem drainN (h : PJ k j P) (hj : j ≤ 1000000) (hc : CI P) {w : Wy} (hw : P.way[0]? = some w) (hq : Curr P 0) : Curr (comeM P 0 w).2 0 ∧ psi (comeM P 0 w).2 + 1 ≤ psi P := by
 obtain ⟨ht, _⟩ := h.pi.way w (List.mem_of_getElem? hw)
 have hm := List.mem_of_getElem? hw
 obtain ⟨b1, b2, b3, b4⟩ := h.bound hj ht
 have hcu : w.e.epoch = (P.s (1 - w.tgt)).epoch := hq w hm
 have hc1 : Curr (comeM P 0 w).2 0 := drainO h hj hc hw (fun v hv => hq v (List.mem_of_mem_drop hv))
 refine ⟨hc1, ?_⟩
 rcases come_two h hc hw with ⟨k, _⟩ | ⟨hk, S⟩
 ·have := hc.kn _ ht
  omega
 ·have hcs := come_sum h hj hw hcu
  have hsum : sumW (P.s 0).epoch (P.s 1).epoch (comeM P 0 w).2.way ≤ sumW (P.s 0).epoch (P.s 1).epoch (P.way.eraseIdx 0 ++ wayOf (resent (P.s w.tgt).epoch (xo w.tgt) (pk P w.tgt) w.e ++ ackL (P.s w.tgt).epoch (xo w.tgt) w.e)) := by
   rw [S.way]
   exact sumW_take _ _
  have hft : fl (comeM P 0 w).2 w.tgt = 0 := by
   unfold fl
   rw [S.pt, afterP_known hk, S.ep _ (by omega), if_neg (by omega)]
  have hfo : fl (comeM P 0 w).2 (1 - w.tgt) = fl P (1 - w.tgt) := by
   unfold fl
   rw [S.po, S.ep _ (by omega)]
  have hsp : ∀ Q : Pr, fl Q 0 + fl Q 1 = fl Q w.tgt + fl Q (1 - w.tgt) := fun Q => by
   rcases (show w.tgt = 0 ∨ w.tgt = 1 by omega) with e | e
   ·rw [e]
   ·rw [e]
    exact Nat.add_comm _ _
  have s1 := hsp (comeM P 0 w).2
  have s2 := hsp P
  unfold psi
  rw [S.ep 0 (by decide), S.ep 1 (by decide)]
  omega
/-- So many comes are enough. -/
def Dr (P : Pr) (m : Nat) : Prop := (∃ n, Curr P n ∧ n + 728 ≤ m) ∨ Curr P 0 ∧ psi P ≤ m
theorem psi_le (h : P.way.length ≤ 300) : psi P ≤ 728 := by
 unfold psi
 have h1 := sumW_le (E0 := (P.s 0).epoch) (E1 := (P.s 1).epoch) P.way
 have h2 := fl_le P 0
 have h3 := fl_le P 1
 omega
theorem Dr.start (h : P.way.length ≤ 300) : Dr P 1028 := by
 refine Or.inl ⟨300, fun w hw => ?_, Nat.le_refl _⟩
 rw [List.drop_eq_nil_of_le h] at hw
 cases hw
theorem Dr.now (h : Curr P 0) : Dr P (psi P) := Or.inr ⟨h, Nat.le_refl _⟩
theorem Dr.come (h : PJ k j P) (hj : j ≤ 1000000) (hc : CI P) {w : Wy} (hw : P.way[0]? = some w) {m : Nat} (hd : Dr P m) : 1 ≤ m ∧ Dr (comeM P 0 w).2 (m - 1) := by
 have h2 : Curr P 0 → psi P ≤ m → 1 ≤ m ∧ Dr (comeM P 0 w).2 (m - 1) := fun h1 h2 => by
  obtain ⟨k1, k2⟩ := drainN h hj hc hw h1
  exact ⟨by omega, Or.inr ⟨k1, by omega⟩⟩
 rcases hd with ⟨n, h3, h4⟩ | ⟨h3, h4⟩
 ·cases n with
  | zero => exact h2 h3 (Nat.le_trans (psi_le h.pi.few) (by omega))
  | succ n => exact ⟨by omega, Or.inl ⟨n, drainO h hj hc hw h3, by omega⟩⟩
 ·exact h2 h3 h4
end
end Go.Proofs.Ytccdpgbmkiapdaa.Ses
