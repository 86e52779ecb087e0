/-
  Layer 14, SessionAll: what went out is taken and acknowledged before the way runs dry. All pure.
  Conditions: none.
-/
import Derived.Test.YtccdpgbmkiapdaaL53
namespace Go.Proofs.Ytccdpgbmkiapdaa.Ses
set_option maxRecDepth 100000
open Go.RowKit Go.Deep Go.Proofs.Ytccdpgbmkiapdaa.Mem Go.Proofs.Ytccdpgbmkiapdaa.Win
/-- An elder incarnation of the other is known. -/
def Behind (P : Pr) (s : Nat) : Prop := 0 < (pk P s).known ∧ (pk P s).known < (P.s (1 - s)).epoch
/-- A packet that lets the payload go. -/
def Good (P : Pr) (s : Nat) (q : Int) (u : Wy) : Prop :=
 (u.tgt = 1 - s ∧ u.e.kind = 1 ∧ u.e.seq = q ∧ (u.e.peer = 0 ∨ u.e.peer = (P.s (1 - s)).epoch ∨ Behind P s)) ∨
 (u.tgt = s ∧ u.e.kind = 2 ∧ u.e.seq = q ∧ u.e.peer = (P.s s).epoch) ∨ (u.tgt = s ∧ Behind P s)
def Flies (P : Pr) (s : Nat) (q : Int) : Prop := ∃ u ∈ P.way, Good P s q u
/-- Each that is held is on its way, or has few ticks left. -/
def Gd (P : Pr) (m : Int) : Prop := ∀ s < 2, ∀ b ∈ (pk P s).held, Flies P s b.seq ∨ b.left ≤ m
theorem after_held {E : Int} {p : Pm} {e : Ev} {b : Hd} (h : b ∈ (afterP E p e).held) : b ∈ (metP p e).held := by
 unfold afterP at h
 split at h
 ·exact h
 ·split at h
  ·split at h
   ·exact h
   ·exact (List.mem_filter.1 h).1
  ·split at h
   ·exact h
   ·exact h
theorem met_held {p : Pm} {e : Ev} (h : ¬ (p.known < e.epoch ∧ p.known ≠ 0)) : (metP p e).held = p.held := by
 unfold metP
 split
 ·rename_i h1
  unfold meetP
  rw [if_pos (Classical.not_not.1 fun h2 => h ⟨h1, h2⟩)]
 ·rfl
theorem sumW_len (E0 E1 : Int) (l : List Wy) : l.length ≤ sumW E0 E1 l := by
 induction l with
 | nil => exact Nat.le_refl _
 | cons w l ih =>
  rw [sumW_cons, List.length_cons]
  have := wt_pos E0 E1 w
  omega
section
variable {k j : Nat} {P : Pr}
theorem Gd.come (h : PJ k j P) (hj : j ≤ 1000000) (hc : CI P) {v : Wy} (hw : P.way[0]? = some v) (hq : Curr P 0) (hp : psi P ≤ 300) {m : Int} (hg : Gd P m) : Gd (comeM P 0 v).2 m := by
 have hm := List.mem_of_getElem? hw
 obtain ⟨ht, _⟩ := h.pi.way v hm
 obtain ⟨b1, b2, b3, b4⟩ := h.bound hj ht
 have hcu : v.e.epoch = (P.s (1 - v.tgt)).epoch := hq v hm
 have hcons := way_cons hw
 rcases come_two h hc hw with ⟨hk, _⟩ | ⟨hk, S⟩
 ·have := hc.kn _ ht
  omega
 obtain ⟨Q, hQ⟩ : ∃ Q, (comeM P 0 v).2 = Q := ⟨_, rfl⟩
 have hcs := come_sum h hj hw hcu
 rw [hQ] at S ⊢
 have hway : Q.way = P.way.eraseIdx 0 ++ wayOf (resent (P.s v.tgt).epoch (xo v.tgt) (pk P v.tgt) v.e ++ ackL (P.s v.tgt).epoch (xo v.tgt) v.e) := by
  rw [S.way]
  refine List.take_of_length_le ?_
  have h1 := sumW_len (P.s 0).epoch (P.s 1).epoch (P.way.eraseIdx 0 ++ wayOf (resent (P.s v.tgt).epoch (xo v.tgt) (pk P v.tgt) v.e ++ ackL (P.s v.tgt).epoch (xo v.tgt) v.e))
  have h2 : sumW (P.s 0).epoch (P.s 1).epoch P.way + fl P v.tgt ≤ psi P := by
   unfold psi
   rcases (show v.tgt = 0 ∨ v.tgt = 1 by omega) with e | e
   ·rw [e]; omega
   ·rw [e]; omega
  exact Nat.le_trans h1 (by omega)
 have hrest : ∀ u ∈ P.way, u ≠ v → u ∈ Q.way := fun u hu hne => by
  rw [hcons] at hu
  rw [hway]
  rcases List.mem_cons.1 hu with hu | hu
  ·exact absurd hu hne
  ·exact List.mem_append_left _ hu
 have hres : ∀ o ∈ resent (P.s v.tgt).epoch (xo v.tgt) (pk P v.tgt) v.e, (⟨(o.dst - 1).toNat, o.e⟩ : Wy) ∈ Q.way := fun o ho => by
  rw [hway]
  exact List.mem_append_right _ (List.mem_map.2 ⟨o, List.mem_append_left _ ho, rfl⟩)
 have hack : ∀ o ∈ ackL (P.s v.tgt).epoch (xo v.tgt) v.e, (⟨(o.dst - 1).toNat, o.e⟩ : Wy) ∈ Q.way := fun o ho => by
  rw [hway]
  exact List.mem_append_right _ (List.mem_map.2 ⟨o, List.mem_append_right _ ho, rfl⟩)
 have hz : (xo v.tgt - 1).toNat = 1 - v.tgt := by unfold xo; omega
 intro s hs b hb
 by_cases e : s = v.tgt
 ·subst e
  rw [S.pt] at hb
  have hb2 := after_held hb
  by_cases hbe : Behind P v.tgt
  ·refine Or.inl ⟨_, hres (outH (xo v.tgt) (P.s v.tgt).epoch v.e.epoch b) ?_, Or.inl ⟨hz, rfl, rfl, Or.inr (Or.inl ?_)⟩⟩
   ·unfold resent
    obtain ⟨k1, k2⟩ := hbe
    rw [if_pos ⟨by rw [hcu]; exact k2, by omega⟩]
    exact List.mem_map.2 ⟨b, hb2, rfl⟩
   ·rw [S.ep _ (by omega)]
    exact hcu
  ·have hmh : (metP (pk P v.tgt) v.e).held = (pk P v.tgt).held := met_held fun k => hbe ⟨by
    have := b1.k0
    have := k.2
    omega, by rw [← hcu]; exact k.1⟩
   rw [hmh] at hb2
   rcases hg v.tgt ht b hb2 with ⟨u, hu, hgo⟩ | hl
   ·rcases hgo with ⟨g1, g2, g3, g4⟩ | ⟨g1, g2, g3, g4⟩ | ⟨_, g⟩
    ·refine Or.inl ⟨u, hrest u hu (fun e => by rw [e] at g1; omega), Or.inl ⟨g1, g2, g3, ?_⟩⟩
     rcases g4 with g4 | g4 | g4
     ·exact Or.inl g4
     ·exact Or.inr (Or.inl (by rw [S.ep _ (by omega)]; exact g4))
     ·exact absurd g4 hbe
    ·by_cases huv : u = v
     ·exfalso
      rw [huv] at g2 g3 g4
      unfold afterP staleB at hb
      rw [if_neg (by rw [decide_eq_true_eq]; exact fun k => k.2 g4), if_pos g2, if_neg (by rw [g4]; omega)] at hb
      have h9 := (List.mem_filter.1 hb).2
      rw [← g3] at h9
      simp at h9
     ·exact Or.inl ⟨u, hrest u hu huv, Or.inr (Or.inl ⟨g1, g2, g3, by rw [S.ep _ ht]; exact g4⟩)⟩
    ·exact absurd g hbe
   ·exact Or.inr hl
 ·have hvt : v.tgt = 1 - s := by omega
  have hst : 1 - v.tgt = s := by omega
  have hpk : pk Q s = pk P s := by
   have := S.po
   rw [hst] at this
   exact this
  rw [hpk] at hb
  have hbq : Behind P s → Behind Q s := fun ⟨k1, k2⟩ => by
   refine ⟨by rw [hpk]; exact k1, ?_⟩
   rw [hpk, S.ep _ (by omega)]
   exact k2
  rcases hg s hs b hb with ⟨u, hu, hgo⟩ | hl
  ·by_cases huv : u = v
   ·subst huv
    rcases hgo with ⟨g1, g2, g3, g4⟩ | ⟨g1, _⟩ | ⟨g1, _⟩
    ·by_cases hsl : staleB (P.s u.tgt).epoch u.e = true
     ·have hbe : Behind P s := by
       have h8 := of_decide_eq_true hsl
       rw [g1] at h8
       rcases g4 with g4 | g4 | g4
       ·exact absurd g4 h8.1
       ·exact absurd g4 h8.2
       ·exact g4
      refine Or.inl ⟨_, hack ⟨xo u.tgt, 2, (P.s u.tgt).epoch, u.e.epoch, 0, ⟨#[]⟩⟩ ?_, Or.inr (Or.inr ⟨by show (xo u.tgt - 1).toNat = s; omega, hbq hbe⟩)⟩
      unfold ackL
      rw [if_pos hsl]
      exact List.mem_singleton.2 rfl
     ·refine Or.inl ⟨_, hack ⟨xo u.tgt, 2, (P.s u.tgt).epoch, u.e.epoch, u.e.seq, ⟨#[]⟩⟩ ?_, Or.inr (Or.inl ⟨by show (xo u.tgt - 1).toNat = s; omega, rfl, g3, ?_⟩)⟩
      ·unfold ackL
       rw [if_neg hsl, if_neg (by rw [g2]; decide)]
       exact List.mem_singleton.2 rfl
      ·show u.e.epoch = _
       rw [hcu, S.ep _ hs, hst]
    ·omega
    ·omega
   ·refine Or.inl ⟨u, hrest u hu huv, ?_⟩
    rcases hgo with ⟨g1, g2, g3, g4⟩ | ⟨g1, g2, g3, g4⟩ | ⟨g1, g⟩
    ·refine Or.inl ⟨g1, g2, g3, ?_⟩
     rw [S.ep _ (by omega)]
     rcases g4 with g4 | g4 | g4
     ·exact Or.inl g4
     ·exact Or.inr (Or.inl g4)
     ·exact Or.inr (Or.inr (hbq g4))
    ·exact Or.inr (Or.inl ⟨g1, g2, g3, by rw [S.ep _ hs]; exact g4⟩)
    ·exact Or.inr (Or.inr ⟨g1, hbq g⟩)
  ·exact Or.inr hl
end
end Go.Proofs.Ytccdpgbmkiapdaa.Ses
