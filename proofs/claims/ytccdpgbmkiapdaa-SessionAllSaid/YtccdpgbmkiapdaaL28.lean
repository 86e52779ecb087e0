/-
  Layer 14, SessionOnce: two sessions and what is under way between them, as a model: no payload is taken twice by one incarnation. All pure.
  Conditions: none.
-/
import Derived.Test.YtccdpgbmkiapdaaL27
namespace Go.Proofs.Ytccdpgbmkiapdaa.Ses
set_option maxRecDepth 100000
open Go.RowKit Go.Deep Go.Proofs.Ytccdpgbmkiapdaa.Mem Go.Proofs.Ytccdpgbmkiapdaa.Win
structure Fix (S S' : Sm) : Prop where
 node : S'.node = S.node
 epoch : S'.epoch = S.epoch
 len : S'.peers.length = S.peers.length
theorem Fix.rfl' (S : Sm) : Fix S S := ⟨rfl, rfl, rfl⟩
theorem Fix.trans {S S1 S2 : Sm} (h : Fix S S1) (k : Fix S1 S2) : Fix S S2 := ⟨k.node.trans h.node, k.epoch.trans h.epoch, k.len.trans h.len⟩
theorem Fix.put (S : Sm) (x : Int) (p : Pm) : Fix S (putP S x p) := ⟨rfl, rfl, List.length_set ..⟩
theorem Fix.other {S S' : Sm} (h : Fix S S') (x : Int) : other S' x = Ses.other S x := by unfold Ses.other; rw [h.node, h.len]
theorem peer_put {S : Sm} {x : Int} (h : other S x = true) (p : Pm) : peerOf (putP S x p) x = p := by
 have h1 := of_decide_eq_true h
 unfold peerOf putP
 rw [List.getElem?_set_self (by omega)]
 rfl
/-- What is known of a peer grows. -/
def Up (p q : Pm) : Prop := p.known < q.known ∨ p.known = q.known ∧ ∀ n, seenL p.L n = true → seenL q.L n = true
theorem Up.rfl' (p : Pm) : Up p p := Or.inr ⟨rfl, fun _ h => h⟩
theorem Up.le {p q : Pm} (h : Up p q) : p.known ≤ q.known := by rcases h with h | h <;> omega
theorem seen_more (L : List Int) (x n : Int) (h : seenL L n = true) : seenL (L ++ [x]) n = true := by
 have h1 := of_decide_eq_true h
 refine decide_eq_true ?_
 have hm : maxL L ≤ maxL (L ++ [x]) := by rw [maxL_snoc]; split <;> omega
 rcases h1 with h1 | h1 | h1 | h1
 ·exact Or.inl h1
 ·exact Or.inr (Or.inl h1)
 ·exact Or.inr (Or.inr (Or.inl (by omega)))
 ·exact Or.inr (Or.inr (Or.inr (List.mem_append_left _ h1)))
theorem seen_last (L : List Int) (x : Int) : seenL (L ++ [x]) x = true := decide_eq_true (Or.inr (Or.inr (Or.inr (by simp))))
/-- What Take does, as far as SessionOnce asks. -/
structure TakeF (S : Sm) (x : Int) (p : Pm) (e : Ev) (R : ByteArray × List Ot × Int × Sm) : Prop where
 fix : Fix S R.2.2.2
 held : ∀ a ∈ (peerOf R.2.2.2 x).held, ∃ b ∈ p.held, a.seq = b.seq ∧ a.pay = b.pay
 out : ∀ o ∈ R.2.1, o.dst = x ∧ (o.e.kind = 1 → o.e.epoch = S.epoch ∧ ∃ b ∈ p.held, o.e.seq = b.seq ∧ o.e.pay = b.pay)
 up : Up p (peerOf R.2.2.2 x)
 new : R.2.2.1 = 0 → e.kind = 1 → R.1 = e.pay ∧ (p.known < e.epoch ∨ p.known = e.epoch ∧ seenL p.L e.seq = false) ∧ (peerOf R.2.2.2 x).known = e.epoch ∧ seenL (peerOf R.2.2.2 x).L e.seq = true
theorem data_out {x ep kn : Int} {l : List Hd} {o : Ot} (h : o ∈ dataL x ep kn l) : o.dst = x ∧ o.e.kind = 1 ∧ o.e.epoch = ep ∧ ∃ b ∈ l, o.e.seq = b.seq ∧ o.e.pay = b.pay := by
 obtain ⟨b, hb, rfl⟩ := List.mem_map.1 h
 exact ⟨rfl, rfl, rfl, b, hb, rfl, rfl⟩
theorem tailF {S : Sm} {x : Int} {e : Ev} {out : List Ot} (ho : other S x = true) (hk : (peerOf S x).known = e.epoch)
  (h : ∀ o ∈ out, o.dst = x ∧ (o.e.kind = 1 → o.e.epoch = S.epoch ∧ ∃ b ∈ (peerOf S x).held, o.e.seq = b.seq ∧ o.e.pay = b.pay)) : TakeF S x (peerOf S x) e (tailM S x e out) := by
 have hack : ∀ (q : Int), ∀ o ∈ out ++ [ackO S x (peerOf S x).known q], o.dst = x ∧ (o.e.kind = 1 → o.e.epoch = S.epoch ∧ ∃ b ∈ (peerOf S x).held, o.e.seq = b.seq ∧ o.e.pay = b.pay) := fun q o hm => by
  rcases List.mem_append.1 hm with hm | hm
  ·exact h o hm
  ·rw [List.mem_singleton.1 hm]
   exact ⟨rfl, fun e => absurd e (by show ¬ (2 : Int) = 1; decide)⟩
 have hsame : ∀ a ∈ (peerOf S x).held, ∃ b ∈ (peerOf S x).held, a.seq = b.seq ∧ a.pay = b.pay := fun a ha => ⟨a, ha, rfl, rfl⟩
 unfold tailM
 split
 ·exact ⟨Fix.rfl' _, hsame, hack 0, Up.rfl' _, fun e => absurd e (by show ¬ (11 : Int) = 0; decide)⟩
 ·split
  ·rename_i hk2
   refine ⟨?_, ?_, h, ?_, fun _ e1 => absurd e1 (by rw [hk2]; decide)⟩
   ·show Fix S (if e.peer = 0 then S else putP S x (goP (peerOf S x) e.seq))
    split
    ·exact Fix.rfl' _
    ·exact Fix.put _ _ _
   ·show ∀ a ∈ (peerOf (if e.peer = 0 then S else putP S x (goP (peerOf S x) e.seq)) x).held, _
    split
    ·exact hsame
    ·rw [peer_put ho]
     exact fun a ha => ⟨a, (List.mem_filter.1 ha).1, rfl, rfl⟩
   ·show Up _ (peerOf (if e.peer = 0 then S else putP S x (goP (peerOf S x) e.seq)) x)
    split
    ·exact Up.rfl' _
    ·rw [peer_put ho]
     exact Up.rfl' (peerOf S x)
  ·split
   ·exact ⟨Fix.rfl' _, hsame, hack _, Up.rfl' _, fun e => absurd e (by show ¬ (9 : Int) = 0; decide)⟩
   ·rename_i hs
    have hp := peer_put ho ⟨(peerOf S x).L ++ [e.seq], (peerOf S x).known, (peerOf S x).last, (peerOf S x).held⟩
    refine ⟨Fix.put _ _ _, ?_, hack _, ?_, fun _ _ => ⟨rfl, Or.inr ⟨hk, by simpa using hs⟩, ?_, ?_⟩⟩
    ·show ∀ a ∈ (peerOf (putP S x ⟨(peerOf S x).L ++ [e.seq], (peerOf S x).known, (peerOf S x).last, (peerOf S x).held⟩) x).held, _
     rw [hp]
     exact hsame
    ·show Up _ (peerOf (putP S x ⟨(peerOf S x).L ++ [e.seq], (peerOf S x).known, (peerOf S x).last, (peerOf S x).held⟩) x)
     rw [hp]
     exact Or.inr ⟨rfl, fun n => seen_more _ _ n⟩
    ·show (peerOf (putP S x ⟨(peerOf S x).L ++ [e.seq], (peerOf S x).known, (peerOf S x).last, (peerOf S x).held⟩) x).known = _
     rw [hp]
     exact hk
    ·show seenL (peerOf (putP S x ⟨(peerOf S x).L ++ [e.seq], (peerOf S x).known, (peerOf S x).last, (peerOf S x).held⟩) x).L _ = _
     rw [hp]
     exact seen_last _ _
theorem meet_known (p : Pm) (e : Int) : (meetP p e).2.known = e := by unfold meetP; split <;> rfl
theorem meet_held {p : Pm} {e : Int} : ∀ a ∈ (meetP p e).2.held, ∃ b ∈ p.held, a.seq = b.seq ∧ a.pay = b.pay := by
 unfold meetP
 split
 ·exact fun a ha => ⟨a, ha, rfl, rfl⟩
 ·intro a ha
  obtain ⟨b, hb, rfl⟩ := List.mem_map.1 (show a ∈ p.held.map beginH from ha)
  exact ⟨b, hb, rfl, rfl⟩
theorem takeF {S : Sm} {x : Int} (e : Ev) (ho : other S x = true) : TakeF S x (peerOf S x) e (takeM S x e) := by
 have hsame : ∀ a ∈ (peerOf S x).held, ∃ b ∈ (peerOf S x).held, a.seq = b.seq ∧ a.pay = b.pay := fun a ha => ⟨a, ha, rfl, rfl⟩
 unfold takeM
 rw [if_neg (by rw [ho]; decide)]
 split
 ·exact ⟨Fix.rfl' _, hsame, fun o hm => (by cases hm), Up.rfl' _, fun e => absurd e (by show ¬ (1 : Int) = 0; decide)⟩
 ·split
  ·exact ⟨Fix.rfl' _, hsame, fun o hm => (by cases hm), Up.rfl' _, fun e => absurd e (by show ¬ (11 : Int) = 0; decide)⟩
  ·split
   ·rename_i h1 hlt
    have hp := peer_put ho (meetP (peerOf S x) e.epoch).2
    have ht := tailF (S := putP S x (meetP (peerOf S x) e.epoch).2) (x := x) (e := e) (out := if (meetP (peerOf S x) e.epoch).1 then dataL x S.epoch (meetP (peerOf S x) e.epoch).2.known (meetP (peerOf S x) e.epoch).2.held else [])
     (by rw [(Fix.put S x _).other]; exact ho) (by rw [hp]; exact meet_known _ _) (by
      rw [hp]
      intro o hm
      split at hm
      ·obtain ⟨d1, _, d2, d3⟩ := data_out hm
       exact ⟨d1, fun _ => ⟨d2, d3⟩⟩
      ·cases hm)
    rw [hp] at ht
    have hle := Int.le_trans (Int.le_of_eq (meet_known (peerOf S x) e.epoch).symm) ht.up.le
    refine ⟨(Fix.put _ _ _).trans ht.fix, fun a ha => ?_, fun o hm => ?_, Or.inl (Int.lt_of_lt_of_le hlt hle), fun e0 e1 => ?_⟩
    ·obtain ⟨b, hb, e1, e2⟩ := ht.held a ha
     obtain ⟨c, hc, e3, e4⟩ := meet_held b hb
     exact ⟨c, hc, e1.trans e3, e2.trans e4⟩
    ·obtain ⟨d1, d2⟩ := ht.out o hm
     refine ⟨d1, fun k => ?_⟩
     obtain ⟨d3, b, hb, e1, e2⟩ := d2 k
     obtain ⟨c, hc, e3, e4⟩ := meet_held b hb
     exact ⟨d3, c, hc, e1.trans e3, e2.trans e4⟩
    ·obtain ⟨n1, _, n3, n4⟩ := ht.new e0 e1
     exact ⟨n1, Or.inl hlt, n3, n4⟩
   ·exact tailF ho (by omega) (fun o hm => by cases hm)
end Go.Proofs.Ytccdpgbmkiapdaa.Ses
