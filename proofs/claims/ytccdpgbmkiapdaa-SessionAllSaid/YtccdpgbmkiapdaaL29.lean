/-
  Layer 14, SessionOnce: the pair's model and what is true of it behind each act: none takes a payload twice. All pure.
  Conditions: none.
-/
import Derived.Test.YtccdpgbmkiapdaaL28
namespace Go.Proofs.Ytccdpgbmkiapdaa.Ses
set_option maxRecDepth 100000
open Go.RowKit Go.Deep Go.Proofs.Ytccdpgbmkiapdaa.Mem Go.Proofs.Ytccdpgbmkiapdaa.Win
/-- What a side sent. -/
structure Sn where
 side : Nat
 epoch : Int
 seq : Int
 pay : ByteArray
/-- What is on its way to a side. -/
structure Wy where
 tgt : Nat
 e : Ev
structure Pr where
 s : Nat → Sm
 way : List Wy
 sent : Nat
 log : List Sn
 took : List (ByteArray × Int)
def nameB (n : Nat) : ByteArray := ⟨#[UInt8.ofNat (n / 256), UInt8.ofNat n]⟩
theorem nameB_inj {n m : Nat} (hn : n < 65536) (hm : m < 65536) (h : nameB n = nameB m) : n = m := by
 have h0 : (nameB n).data = (nameB m).data := by rw [h]
 unfold nameB at h0
 simp only [Array.mk.injEq, List.cons.injEq, and_true] at h0
 have h1 := congrArg UInt8.toNat h0.1
 have h2 := congrArg UInt8.toNat h0.2
 rw [UInt8.toNat_ofNat', UInt8.toNat_ofNat'] at h1 h2
 omega
/-- The other side's number. -/
def xo (a : Nat) : Int := 2 - (a : Int)
def setS (s : Nat → Sm) (a : Nat) (S : Sm) : Nat → Sm := fun i => if i = a then S else s i
theorem setS_same (s : Nat → Sm) (a : Nat) (S : Sm) : setS s a S a = S := if_pos rfl
theorem setS_other {s : Nat → Sm} {a b : Nat} {S : Sm} (h : b ≠ a) : setS s a S b = s b := if_neg h
def putW (way : List Wy) (out : List Ot) : List Wy := (way ++ out.map fun o => (⟨(o.dst - 1).toNat, o.e⟩ : Wy)).take 300
def Old (p : Pm) (r : Sn) : Prop := r.epoch < p.known ∨ r.epoch = p.known ∧ seenL p.L r.seq = true
theorem Old.up {p q : Pm} {r : Sn} (h : Old p r) (u : Up p q) : Old q r := by
 rcases u with u | ⟨u, v⟩
 ·rcases h with h | ⟨h, _⟩
  ·exact Or.inl (Int.lt_trans h u)
  ·exact Or.inl (by omega)
 ·rcases h with h | ⟨h, h2⟩
  ·exact Or.inl (by omega)
  ·exact Or.inr ⟨h.trans u, v _ h2⟩
structure PI (k : Nat) (P : Pr) : Prop where
 node : ∀ a < 2, (P.s a).node = (a : Int) + 1
 len : ∀ a < 2, (P.s a).peers.length = 2
 lone : ∀ a < 2, Lone (P.s a)
 e0 : ∀ a < 2, 1 ≤ (P.s a).epoch
 e1 : ∀ a < 2, (P.s a).epoch ≤ (k : Int) + 1
 sent : P.sent ≤ k
 held : ∀ a < 2, ∀ b ∈ (peerOf (P.s a) (xo a)).held, (⟨a, (P.s a).epoch, b.seq, b.pay⟩ : Sn) ∈ P.log
 way : ∀ w ∈ P.way, w.tgt < 2 ∧ (w.e.kind = 1 → (⟨1 - w.tgt, w.e.epoch, w.e.seq, w.e.pay⟩ : Sn) ∈ P.log)
 few : P.way.length ≤ 300
 side : ∀ r ∈ P.log, r.side < 2
 uniq : ∀ r ∈ P.log, ∀ r' ∈ P.log, r.pay = r'.pay → r = r'
 name : ∀ r ∈ P.log, ∃ n, 1 ≤ n ∧ n ≤ P.sent ∧ r.pay = nameB n
 took : ∀ q ∈ P.took, ∃ r ∈ P.log, r.pay = q.1 ∧ q.2 ≤ (P.s (1 - r.side)).epoch ∧ (q.2 = (P.s (1 - r.side)).epoch → Old (peerOf (P.s (1 - r.side)) (xo (1 - r.side))) r)
theorem other_xo {S : Sm} {a : Nat} (ha : a < 2) (hn : S.node = (a : Int) + 1) (hl : S.peers.length = 2) : other S (xo a) = true := by
 refine decide_eq_true ?_
 unfold xo
 rw [hn, hl]
 omega
section
variable {k : Nat} {P : Pr}
theorem PI.mono (h : PI k P) {m : Nat} (hm : k ≤ m) : PI m P :=
 ⟨h.node, h.len, h.lone, h.e0, fun a ha => by have := h.e1 a ha; omega, Nat.le_trans h.sent hm, h.held, h.way, h.few, h.side, h.uniq, h.name, h.took⟩
/-- A side's session turns. -/
theorem PI.turn (h : PI k P) {a : Nat} (ha : a < 2) {S' : Sm} (hf : Fix (P.s a) S') (hl : Lone S') (hh : ∀ b ∈ (peerOf S' (xo a)).held, (⟨a, (P.s a).epoch, b.seq, b.pay⟩ : Sn) ∈ P.log)
  (hu : Up (peerOf (P.s a) (xo a)) (peerOf S' (xo a))) {wy : List Wy} (hw : ∀ w ∈ wy, w.tgt < 2 ∧ (w.e.kind = 1 → (⟨1 - w.tgt, w.e.epoch, w.e.seq, w.e.pay⟩ : Sn) ∈ P.log)) (hn : wy.length ≤ 300) :
  PI k { P with s := setS P.s a S', way := wy } := by
 refine ⟨fun b hb => ?_, fun b hb => ?_, fun b hb => ?_, fun b hb => ?_, fun b hb => ?_, h.sent, fun b hb => ?_, hw, hn, h.side, h.uniq, h.name, fun q hq => ?_⟩
 ·show (setS P.s a S' b).node = _
  by_cases e : b = a
  ·rw [e, setS_same, hf.node]; exact h.node a ha
  ·rw [setS_other e]; exact h.node b hb
 ·show (setS P.s a S' b).peers.length = _
  by_cases e : b = a
  ·rw [e, setS_same, hf.len]; exact h.len a ha
  ·rw [setS_other e]; exact h.len b hb
 ·show Lone (setS P.s a S' b)
  by_cases e : b = a
  ·rw [e, setS_same]; exact hl
  ·rw [setS_other e]; exact h.lone b hb
 ·show 1 ≤ (setS P.s a S' b).epoch
  by_cases e : b = a
  ·rw [e, setS_same, hf.epoch]; exact h.e0 a ha
  ·rw [setS_other e]; exact h.e0 b hb
 ·show (setS P.s a S' b).epoch ≤ _
  by_cases e : b = a
  ·rw [e, setS_same, hf.epoch]; exact h.e1 a ha
  ·rw [setS_other e]; exact h.e1 b hb
 ·show ∀ c ∈ (peerOf (setS P.s a S' b) (xo b)).held, (⟨b, (setS P.s a S' b).epoch, c.seq, c.pay⟩ : Sn) ∈ P.log
  by_cases e : b = a
  ·rw [e, setS_same, hf.epoch]; exact hh
  ·rw [setS_other e]; exact h.held b hb
 ·obtain ⟨r, hr, h1, h2, h3⟩ := h.took q hq
  refine ⟨r, hr, h1, ?_⟩
  show q.2 ≤ (setS P.s a S' (1 - r.side)).epoch ∧ (q.2 = (setS P.s a S' (1 - r.side)).epoch → Old (peerOf (setS P.s a S' (1 - r.side)) (xo (1 - r.side))) r)
  by_cases e : 1 - r.side = a
  ·rw [e] at h2 h3 ⊢
   rw [setS_same, hf.epoch]
   exact ⟨h2, fun e2 => (h3 e2).up hu⟩
  ·rw [setS_other e]
   exact ⟨h2, h3⟩
/-- A side begins anew. -/
theorem PI.anew (h : PI k P) {a : Nat} (ha : a < 2) : PI (k + 1) { P with s := setS P.s a (newS ((a : Int) + 1) 2 ((P.s a).epoch + 1)) } := by
 have hfr : ∀ x : Int, (peerOf (newS ((a : Int) + 1) 2 ((P.s a).epoch + 1)) x).held = [] := fun x => by
  unfold peerOf
  cases hq : (newS ((a : Int) + 1) 2 ((P.s a).epoch + 1)).peers[(x - 1).toNat]? with
  | none => rfl
  | some q =>
   rw [Option.getD_some, List.eq_of_mem_replicate (List.mem_of_getElem? (show (List.replicate (2 : Int).toNat freshP)[(x - 1).toNat]? = some q from hq))]
   rfl
 refine ⟨fun b hb => ?_, fun b hb => ?_, fun b hb => ?_, fun b hb => ?_, fun b hb => ?_, Nat.le_succ_of_le h.sent, fun b hb => ?_, h.way, h.few, h.side, h.uniq, h.name, fun q hq => ?_⟩
 ·show (setS P.s a _ b).node = _
  by_cases e : b = a
  ·rw [e, setS_same]; rfl
  ·rw [setS_other e]; exact h.node b hb
 ·show (setS P.s a _ b).peers.length = _
  by_cases e : b = a
  ·rw [e, setS_same]; rfl
  ·rw [setS_other e]; exact h.len b hb
 ·show Lone (setS P.s a _ b)
  by_cases e : b = a
  ·rw [e, setS_same]; exact newS_lone _ _ _
  ·rw [setS_other e]; exact h.lone b hb
 ·show 1 ≤ (setS P.s a _ b).epoch
  by_cases e : b = a
  ·rw [e, setS_same]
   have := h.e0 a ha
   show 1 ≤ (P.s a).epoch + 1
   omega
  ·rw [setS_other e]; exact h.e0 b hb
 ·show (setS P.s a _ b).epoch ≤ ((k + 1 : Nat) : Int) + 1
  by_cases e : b = a
  ·rw [e, setS_same]
   have := h.e1 a ha
   show (P.s a).epoch + 1 ≤ _
   omega
  ·rw [setS_other e]
   have := h.e1 b hb
   omega
 ·show ∀ c ∈ (peerOf (setS P.s a _ b) (xo b)).held, (⟨b, (setS P.s a _ b).epoch, c.seq, c.pay⟩ : Sn) ∈ P.log
  by_cases e : b = a
  ·rw [e, setS_same, hfr]
   intro c hc
   cases hc
  ·rw [setS_other e]; exact h.held b hb
 ·obtain ⟨r, hr, h1, h2, h3⟩ := h.took q hq
  refine ⟨r, hr, h1, ?_⟩
  show q.2 ≤ (setS P.s a _ (1 - r.side)).epoch ∧ (q.2 = (setS P.s a _ (1 - r.side)).epoch → Old (peerOf (setS P.s a _ (1 - r.side)) (xo (1 - r.side))) r)
  by_cases e : 1 - r.side = a
  ·rw [e] at h2 ⊢
   rw [setS_same]
   have hep : (newS ((a : Int) + 1) 2 ((P.s a).epoch + 1)).epoch = (P.s a).epoch + 1 := rfl
   rw [hep]
   exact ⟨by omega, fun e2 => absurd e2 (by omega)⟩
  ·rw [setS_other e]
   exact ⟨h2, h3⟩
theorem PI.put (h : PI k P) {wy : List Wy} (hs : ∀ w ∈ wy, w ∈ P.way) {out : List Ot} {a : Nat} (ha : a < 2) {log : List Sn} (hlog : ∀ r ∈ P.log, r ∈ log)
  (ho : ∀ o ∈ out, o.dst = xo a ∧ (o.e.kind = 1 → (⟨a, o.e.epoch, o.e.seq, o.e.pay⟩ : Sn) ∈ log)) :
  (∀ w ∈ putW wy out, w.tgt < 2 ∧ (w.e.kind = 1 → (⟨1 - w.tgt, w.e.epoch, w.e.seq, w.e.pay⟩ : Sn) ∈ log)) ∧ (putW wy out).length ≤ 300 := by
 refine ⟨fun w hw => ?_, by unfold putW; rw [List.length_take]; omega⟩
 rcases List.mem_append.1 (List.mem_of_mem_take hw) with hw | hw
 ·obtain ⟨h1, h2⟩ := h.way w (hs w hw)
  exact ⟨h1, fun e => hlog _ (h2 e)⟩
 ·obtain ⟨o, hm, rfl⟩ := List.mem_map.1 hw
  obtain ⟨h1, h2⟩ := ho o hm
  have ht : (o.dst - 1).toNat = 1 - a := by rw [h1]; unfold xo; omega
  show (o.dst - 1).toNat < 2 ∧ (o.e.kind = 1 → (⟨1 - (o.dst - 1).toNat, o.e.epoch, o.e.seq, o.e.pay⟩ : Sn) ∈ log)
  rw [ht, show 1 - (1 - a) = a by omega]
  exact ⟨by omega, h2⟩
/-- A packet comes: was it sent so, and not taken before? -/
def comeM (P : Pr) (i : Nat) (w : Wy) : Bool × Pr :=
 let R := takeM (P.s w.tgt) (xo w.tgt) w.e
 let P1 : Pr := { P with s := setS P.s w.tgt R.2.2.2, way := putW (P.way.eraseIdx i) R.2.1 }
 if R.2.2.1 ≠ 0 ∨ w.e.kind ≠ 1 then (true, P1)
 else (decide (∃ r ∈ P.log, r.pay = R.1 ∧ r.side = 1 - w.tgt) && decide (∀ q ∈ P.took, q ≠ (R.1, (P.s w.tgt).epoch)), { P1 with took := (R.1, (P.s w.tgt).epoch) :: P.took })
theorem PI.come (h : PI k P) {i : Nat} {w : Wy} (hw : P.way[i]? = some w) : (comeM P i w).1 = true ∧ PI k (comeM P i w).2 := by
 obtain ⟨ht, hd⟩ := h.way w (List.mem_of_getElem? hw)
 have F := takeF w.e (other_xo ht (h.node _ ht) (h.len _ ht))
 obtain ⟨R, hR⟩ : ∃ R, takeM (P.s w.tgt) (xo w.tgt) w.e = R := ⟨_, rfl⟩
 have hlone := takeM_lone (h.lone _ ht) (xo w.tgt) w.e
 rw [hR] at F hlone
 obtain ⟨p1, p2⟩ := h.put (wy := P.way.eraseIdx i) (fun v hv => List.mem_of_mem_eraseIdx hv) (out := R.2.1) ht (log := P.log) (fun _ e => e) (fun o hm => by
  obtain ⟨h1, h2⟩ := F.out o hm
  refine ⟨h1, fun e => ?_⟩
  obtain ⟨e1, b, hb, e2, e3⟩ := h2 e
  rw [e1, e2, e3]
  exact h.held _ ht b hb)
 have T := h.turn ht F.fix hlone (fun a ha => by
  obtain ⟨b, hb, e2, e3⟩ := F.held a ha
  rw [e2, e3]
  exact h.held _ ht b hb) F.up p1 p2
 unfold comeM
 rw [hR]
 dsimp only
 split
 ·exact ⟨rfl, T⟩
 ·rename_i hc
  have hc1 : R.2.2.1 = 0 := Classical.byContradiction fun e => hc (Or.inl e)
  have hc2 : w.e.kind = 1 := Classical.byContradiction fun e => hc (Or.inr e)
  obtain ⟨n1, n2, n3, n4⟩ := F.new hc1 hc2
  have hlog := hd hc2
  have hback : 1 - (1 - w.tgt) = w.tgt := by omega
  refine ⟨?_, ⟨T.node, T.len, T.lone, T.e0, T.e1, T.sent, T.held, T.way, T.few, T.side, T.uniq, T.name, fun q hq => ?_⟩⟩
  ·rw [Bool.and_eq_true]
   refine ⟨decide_eq_true ⟨_, hlog, n1.symm, rfl⟩, decide_eq_true fun q hq e => ?_⟩
   obtain ⟨r, hr, h1, h2, h3⟩ := h.took q hq
   obtain rfl := h.uniq r hr _ hlog (by rw [h1, e]; exact n1)
   have h4 := h3 (by
    show q.2 = (P.s (1 - (1 - w.tgt))).epoch
    rw [hback, e])
   rw [show (1 - (1 - w.tgt)) = w.tgt from hback] at h4
   rcases h4 with h4 | ⟨h4, h5⟩
   ·have h4' : w.e.epoch < (peerOf (P.s w.tgt) (xo w.tgt)).known := h4
    rcases n2 with n2 | ⟨n2, _⟩ <;> omega
   ·have h4' : w.e.epoch = (peerOf (P.s w.tgt) (xo w.tgt)).known := h4
    rcases n2 with n2 | ⟨_, n2⟩
    ·omega
    ·rw [show seenL (peerOf (P.s w.tgt) (xo w.tgt)).L w.e.seq = true from h5] at n2
     cases n2
  ·rcases List.mem_cons.1 hq with rfl | hq
   ·refine ⟨_, hlog, n1.symm, ?_⟩
    show (P.s w.tgt).epoch ≤ (setS P.s w.tgt R.2.2.2 (1 - (1 - w.tgt))).epoch ∧ (_ → Old (peerOf (setS P.s w.tgt R.2.2.2 (1 - (1 - w.tgt))) (xo (1 - (1 - w.tgt)))) _)
    rw [hback, setS_same, F.fix.epoch]
    exact ⟨Int.le_refl _, fun _ => Or.inr ⟨n3.symm, n4⟩⟩
   ·exact T.took q hq
end
end Go.Proofs.Ytccdpgbmkiapdaa.Ses
