/-
  Layer 14, SessionOnce: the pair's acts, and all that is played: none takes a payload twice. All pure.
  Conditions: none.
-/
import Derived.Test.YtccdpgbmkiapdaaL29
namespace Go.Proofs.Ytccdpgbmkiapdaa.Ses
set_option maxRecDepth 100000
open Go.RowKit Go.Deep Go.Proofs.Ytccdpgbmkiapdaa.Mem Go.Proofs.Ytccdpgbmkiapdaa.Win
theorem sendF {S : Sm} {x : Int} (t : ByteArray) (ho : other S x = true) : Fix S (sendM S x [t]).2.2 ∧ Up (peerOf S x) (peerOf (sendM S x [t]).2.2 x) ∧ ((sendM S x [t]).2.1 ≠ 0 → (sendM S x [t]).2.2 = S ∧ (sendM S x [t]).1 = []) ∧
  ((sendM S x [t]).2.1 = 0 → (∀ b ∈ (peerOf (sendM S x [t]).2.2 x).held, b ∈ (peerOf S x).held ∨ b.seq = (peerOf S x).last + 1 ∧ b.pay = t) ∧
   ∀ o ∈ (sendM S x [t]).1, o.dst = x ∧ o.e.epoch = S.epoch ∧ o.e.seq = (peerOf S x).last + 1 ∧ o.e.pay = t) := by
 unfold sendM
 rw [if_neg (by rw [ho]; decide)]
 split
 ·exact ⟨Fix.rfl' _, Up.rfl' _, fun _ => ⟨rfl, rfl⟩, fun e => absurd e (by show ¬ (1 : Int) = 0; decide)⟩
 ·split
  ·exact ⟨Fix.rfl' _, Up.rfl' _, fun _ => ⟨rfl, rfl⟩, fun e => absurd e (by show ¬ (6 : Int) = 0; decide)⟩
  ·have hp := peer_put ho (holdP (peerOf S x) [t])
   refine ⟨Fix.put _ _ _, ?_, fun e => absurd rfl e, fun _ => ⟨?_, fun o hm => ?_⟩⟩
   ·show Up _ (peerOf (putP S x (holdP (peerOf S x) [t])) x)
    rw [hp]
    exact Or.inr ⟨rfl, fun _ h => h⟩
   ·show ∀ b ∈ (peerOf (putP S x (holdP (peerOf S x) [t])) x).held, _
    rw [hp]
    intro b hb
    rcases List.mem_append.1 (show b ∈ (peerOf S x).held ++ [⟨(peerOf S x).last + 1, t, 4, 4⟩] from hb) with hb | hb
    ·exact Or.inl hb
    ·rw [List.mem_singleton.1 hb]
     exact Or.inr ⟨rfl, rfl⟩
   ·obtain ⟨d1, _, d2, b, hb, d3, d4⟩ := data_out (show o ∈ dataL x S.epoch (peerOf S x).known [⟨(peerOf S x).last + 1, t, 4, 4⟩] from hm)
    rw [List.mem_singleton.1 hb] at d3 d4
    exact ⟨d1, d2, d3, d4⟩
theorem due_mem {l : List Hd} {a : Hd} (h : a ∈ dueL l) : ∃ b ∈ l, a.seq = b.seq ∧ a.pay = b.pay := by
 obtain ⟨b, hb, rfl⟩ := List.mem_map.1 h
 refine ⟨b, (List.mem_filter.1 hb).1, tickH_seq b, ?_⟩
 unfold tickH
 split <;> rfl
theorem tickO_mem {ep : Int} {o : Ot} : ∀ {l : List Pm} {i : Nat}, o ∈ tickO ep i l → ∃ (j : Nat) (p : Pm), l[j]? = some p ∧ o.dst = ((i + j : Nat) : Int) + 1 ∧ o.e.epoch = ep ∧ ∃ b ∈ p.held, o.e.seq = b.seq ∧ o.e.pay = b.pay := by
 intro l
 induction l with
 | nil => intro i h; cases h
 | cons p r ih =>
  intro i h
  rcases List.mem_append.1 (show o ∈ dataL ((i : Int) + 1) ep p.known (dueL p.held) ++ tickO ep (i + 1) r from h) with h | h
  ·obtain ⟨d1, _, d2, a, ha, d3, d4⟩ := data_out h
   obtain ⟨b, hb, e1, e2⟩ := due_mem ha
   exact ⟨0, p, rfl, d1, d2, b, hb, d3.trans e1, d4.trans e2⟩
  ·obtain ⟨j, q, h1, h2, h3⟩ := ih h
   exact ⟨j + 1, q, by rw [List.getElem?_cons_succ]; exact h1, by rw [h2]; omega, h3⟩
theorem tick_fix (S : Sm) : Fix S (tickM S).2 := ⟨rfl, rfl, List.length_map ..⟩
theorem tick_peer (S : Sm) (x : Int) : peerOf (tickM S).2 x = (tickP (peerOf S x)).2 := by
 show ((S.peers.map fun p => (tickP p).2)[(x - 1).toNat]?).getD freshP = _
 unfold peerOf
 rw [List.getElem?_map]
 cases S.peers[(x - 1).toNat]? <;> rfl
def sendP (P : Pr) (a : Nat) : Pr :=
 let R := sendM (P.s a) (xo a) [nameB (P.sent + 1)]
 if R.2.1 = 0 then ⟨setS P.s a R.2.2, putW P.way R.1, P.sent + 1, ⟨a, (P.s a).epoch, (peerOf (P.s a) (xo a)).last + 1, nameB (P.sent + 1)⟩ :: P.log, P.took⟩
 else ⟨setS P.s a R.2.2, P.way, P.sent + 1, P.log, P.took⟩
def tickW (P : Pr) (a : Nat) : Pr := { P with s := setS P.s a (tickM (P.s a)).2, way := putW P.way (tickM (P.s a)).1 }
section
variable {k : Nat} {P : Pr}
theorem PI.skip (h : PI k P) : PI (k + 1) { P with sent := P.sent + 1 } :=
 ⟨h.node, h.len, h.lone, h.e0, (h.mono (Nat.le_succ k)).e1, Nat.succ_le_succ h.sent, h.held, h.way, h.few, h.side, h.uniq, fun r hr => by
  obtain ⟨n, h1, h2, h3⟩ := h.name r hr
  exact ⟨n, h1, Nat.le_succ_of_le h2, h3⟩, h.took⟩
theorem PI.more (h : PI k P) (hk : k < 60000) {a : Nat} (ha : a < 2) (ep q : Int) : PI (k + 1) { P with sent := P.sent + 1, log := ⟨a, ep, q, nameB (P.sent + 1)⟩ :: P.log } := by
 have hs := h.sent
 have hnew : ∀ r ∈ P.log, r.pay ≠ nameB (P.sent + 1) := fun r hr e => by
  obtain ⟨n, h1, h2, h3⟩ := h.name r hr
  rw [h3] at e
  have := nameB_inj (by omega) (by omega) e
  omega
 refine ⟨h.node, h.len, h.lone, h.e0, (h.mono (Nat.le_succ k)).e1, Nat.succ_le_succ hs, fun b hb c hc => List.mem_cons_of_mem _ (h.held b hb c hc), fun w hw => ⟨(h.way w hw).1, fun e => List.mem_cons_of_mem _ ((h.way w hw).2 e)⟩, h.few, fun r hr => ?_, fun r hr r' hr' e => ?_, fun r hr => ?_, fun q hq => ?_⟩
 ·rcases List.mem_cons.1 hr with rfl | hr
  ·exact ha
  ·exact h.side r hr
 ·rcases List.mem_cons.1 hr with rfl | hr
  ·rcases List.mem_cons.1 hr' with rfl | hr'
   ·rfl
   ·exact absurd e.symm (hnew r' hr')
  ·rcases List.mem_cons.1 hr' with rfl | hr'
   ·exact absurd e (hnew r hr)
   ·exact h.uniq r hr r' hr' e
 ·rcases List.mem_cons.1 hr with rfl | hr
  ·exact ⟨P.sent + 1, by omega, Nat.le_refl _, rfl⟩
  ·obtain ⟨n, h1, h2, h3⟩ := h.name r hr
   exact ⟨n, h1, Nat.le_succ_of_le h2, h3⟩
 ·obtain ⟨r, hr, h1, h2⟩ := h.took q hq
  exact ⟨r, List.mem_cons_of_mem _ hr, h1, h2⟩
theorem PI.send (h : PI k P) (hk : k < 60000) {a : Nat} (ha : a < 2) : PI (k + 1) (sendP P a) := by
 have ho := other_xo ha (h.node _ ha) (h.len _ ha)
 obtain ⟨f1, f2, f3, f4⟩ := sendF (nameB (P.sent + 1)) ho
 have hl := sendM_lone (h.lone _ ha) (xo a) [nameB (P.sent + 1)]
 obtain ⟨R, hR⟩ : ∃ R, sendM (P.s a) (xo a) [nameB (P.sent + 1)] = R := ⟨_, rfl⟩
 unfold sendP
 rw [hR] at f1 f2 f3 f4 hl ⊢
 dsimp only
 split
 ·rename_i h0
  obtain ⟨g1, g2⟩ := f4 h0
  have M := h.more hk ha (P.s a).epoch ((peerOf (P.s a) (xo a)).last + 1)
  obtain ⟨p1, p2⟩ := M.put (wy := P.way) (fun _ e => e) (out := R.1) ha (fun _ e => e) (fun o hm => by
   obtain ⟨d1, d2, d3, d4⟩ := g2 o hm
   refine ⟨d1, fun _ => ?_⟩
   rw [d2, d3, d4]
   exact List.mem_cons_self ..)
  exact M.turn ha f1 hl (fun b hb => by
   rcases g1 b hb with hb | ⟨e1, e2⟩
   ·exact M.held a ha b hb
   ·rw [e1, e2]
    exact List.mem_cons_self ..) f2 p1 p2
 ·rename_i h0
  obtain ⟨e, _⟩ := f3 h0
  have M := h.skip
  exact M.turn ha f1 hl (fun b hb => by
   rw [e] at hb
   exact M.held a ha b hb) f2 M.way M.few
theorem PI.tick (h : PI k P) {a : Nat} (ha : a < 2) : PI k (tickW P a) := by
 have hn := h.node a ha
 have hl := h.len a ha
 obtain ⟨p1, p2⟩ := h.put (wy := P.way) (fun _ e => e) (out := (tickM (P.s a)).1) ha (log := P.log) (fun _ e => e) (fun o hm => by
  obtain ⟨j, p, h1, h2, h3, b, hb, h4, h5⟩ := tickO_mem hm
  have hj : j < 2 := by
   have := (List.getElem?_eq_some_iff.1 h1).1
   omega
  have hja : j ≠ a := fun e => by
   rw [h.lone a ha j p h1 (by rw [hn, e])] at hb
   cases hb
  have hx : ((0 + j : Nat) : Int) + 1 = xo a := by unfold xo; omega
  have hp : peerOf (P.s a) (xo a) = p := by
   unfold peerOf
   rw [← hx, show (((0 + j : Nat) : Int) + 1 - 1).toNat = j by omega, h1]
   rfl
  refine ⟨h2.trans hx, fun _ => ?_⟩
  rw [h3, h4, h5]
  exact h.held a ha b (by rw [hp]; exact hb))
 refine h.turn ha (tick_fix _) (tickM_lone (h.lone a ha)) (fun b hb => ?_) (by rw [tick_peer]; exact Or.inr ⟨rfl, fun _ e => e⟩) p1 p2
 rw [tick_peer] at hb
 obtain ⟨c, hc, rfl⟩ := List.mem_map.1 (show b ∈ (peerOf (P.s a) (xo a)).held.map fun h => (tickH h).2 from hb)
 have e2 : (tickH c).2.pay = c.pay := by unfold tickH; split <;> rfl
 show (⟨a, (P.s a).epoch, (tickH c).2.seq, (tickH c).2.pay⟩ : Sn) ∈ P.log
 rw [tickH_seq, e2]
 exact h.held a ha c hc
structure Ac where
 k : Int
 a : Int
 n : Int
def sideOf (x : Int) : Nat := (x % 2).toNat
theorem sideOf_lt (x : Int) : sideOf x < 2 := by unfold sideOf; omega
def atM (n : Int) (len : Nat) : Nat := ((n.tmod len + len).tmod len).toNat
def anewP (P : Pr) (a : Nat) : Pr := { P with s := setS P.s a (newS ((a : Int) + 1) 2 ((P.s a).epoch + 1)) }
/-- An act is done. -/
def doM (P : Pr) (x : Ac) : Bool × Pr :=
 if x.k = 0 then (true, sendP P (sideOf x.a)) else
 if x.k = 4 then (true, tickW P (sideOf x.a)) else
 if x.k = 5 then (true, anewP P (sideOf x.a)) else
 match P.way[atM x.n P.way.length]? with
 | none => (true, P)
 | some w =>
  if x.k = 1 then comeM P (atM x.n P.way.length) w else
  if x.k = 2 then (true, { P with way := P.way.eraseIdx (atM x.n P.way.length) }) else
  if x.k = 3 ∧ P.way.length < 300 then (true, { P with way := P.way ++ [w] }) else (true, P)
theorem PI.way' (h : PI k P) {wy : List Wy} (hs : ∀ w ∈ wy, w ∈ P.way) (hn : wy.length ≤ 300) : PI k { P with way := wy } :=
 ⟨h.node, h.len, h.lone, h.e0, h.e1, h.sent, h.held, fun w hw => h.way w (hs w hw), hn, h.side, h.uniq, h.name, h.took⟩
theorem PI.act (h : PI k P) (hk : k < 60000) (x : Ac) : (doM P x).1 = true ∧ PI (k + 1) (doM P x).2 := by
 unfold doM
 split
 ·exact ⟨rfl, h.send hk (sideOf_lt _)⟩
 ·split
  ·exact ⟨rfl, (h.tick (sideOf_lt _)).mono (Nat.le_succ k)⟩
  ·split
   ·exact ⟨rfl, h.anew (sideOf_lt _)⟩
   ·split
    ·exact ⟨rfl, h.mono (Nat.le_succ k)⟩
    ·rename_i w hw
     split
     ·obtain ⟨c1, c2⟩ := h.come hw
      exact ⟨c1, c2.mono (Nat.le_succ k)⟩
     ·split
      ·refine ⟨rfl, (h.way' (fun v hv => List.mem_of_mem_eraseIdx hv) ?_).mono (Nat.le_succ k)⟩
       have := h.few
       have := List.length_eraseIdx_le P.way (atM x.n P.way.length)
       omega
      ·split
       ·rename_i h3
        refine ⟨rfl, (h.way' (fun v hv => ?_) ?_).mono (Nat.le_succ k)⟩
        ·rcases List.mem_append.1 hv with hv | hv
         ·exact hv
         ·rw [List.mem_singleton.1 hv]
          exact List.mem_of_getElem? hw
        ·rw [List.length_append, List.length_singleton]
         omega
       ·exact ⟨rfl, h.mono (Nat.le_succ k)⟩
def meetS : Pr := ⟨fun i => newS ((i : Int) + 1) 2 1, [], 0, [], []⟩
theorem PI.start : PI 0 meetS := by
 have hfr : ∀ (a : Nat) (x : Int), (peerOf (newS ((a : Int) + 1) 2 1) x).held = [] := fun a x => by
  unfold peerOf
  cases hq : (newS ((a : Int) + 1) 2 1).peers[(x - 1).toNat]? with
  | none => rfl
  | some q =>
   rw [Option.getD_some, List.eq_of_mem_replicate (List.mem_of_getElem? (show (List.replicate (2 : Int).toNat freshP)[(x - 1).toNat]? = some q from hq))]
   rfl
 refine ⟨fun _ _ => rfl, fun _ _ => rfl, fun _ _ => newS_lone _ _ _, fun _ _ => Int.le_refl _, fun _ _ => ?_, Nat.le_refl _, fun a _ b hb => ?_, fun w hw => ?_, Nat.zero_le _, fun r hr => ?_, fun r hr => ?_, fun r hr => ?_, fun q hq => ?_⟩
 ·show (1 : Int) ≤ ((0 : Nat) : Int) + 1
  decide
 ·rw [show peerOf (meetS.s a) (xo a) = peerOf (newS ((a : Int) + 1) 2 1) (xo a) from rfl, hfr] at hb
  cases hb
 ·exact absurd hw List.not_mem_nil
 ·exact absurd hr List.not_mem_nil
 ·exact absurd hr List.not_mem_nil
 ·exact absurd hr List.not_mem_nil
 ·exact absurd hq List.not_mem_nil
end
end Go.Proofs.Ytccdpgbmkiapdaa.Ses
