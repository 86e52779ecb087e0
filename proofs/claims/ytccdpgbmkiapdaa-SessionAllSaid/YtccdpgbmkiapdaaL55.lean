/-
  Layer 14, SessionAll: forty ticks of both, each behind it all that is on the way comes. All pure.
  Conditions: none.
-/
import Derived.Test.YtccdpgbmkiapdaaL54
namespace Go.Proofs.Ytccdpgbmkiapdaa.Ses
set_option maxRecDepth 100000
open Go.RowKit Go.Deep Go.Proofs.Ytccdpgbmkiapdaa.Mem Go.Proofs.Ytccdpgbmkiapdaa.Win
/-- What is so all along, with so many words to the sessions at most. -/
def Hs (k jb : Nat) (P : Pr) : Prop := (∃ j, PJ k j P ∧ j ≤ jb) ∧ CI P
/-- Ahead of the t-th tick. -/
def Al (t : Nat) (P : Pr) : Prop := t = 0 ∨ P.way = [] ∧ ∀ s < 2, ∀ b ∈ (pk P s).held, b.left ≤ 17 - (t : Int)
/-- In the t-th tick, a sides ticked. -/
def Tk (t a : Nat) (P : Pr) : Prop := t = 0 ∨ Curr P 0 ∧ P.way.length ≤ 32 * a ∧ ∀ s < 2, ∀ b ∈ (pk P s).held, (s < a ∧ Flies P s b.seq) ∨ b.left ≤ (if s < a then 16 else 17) - (t : Int)
/-- Behind the t-th tick, n packets came. -/
def Dn (t n : Nat) (P : Pr) : Prop := (∃ m, Dr P m ∧ m + n ≤ 1028) ∧ (t = 0 ∨ Curr P 0 ∧ psi P ≤ 300 ∧ Gd P (16 - (t : Int)))
theorem Al.tk {t : Nat} {P : Pr} (h : Al t P) : Tk t 0 P := by
 rcases h with h | ⟨h1, h2⟩
 ·exact Or.inl h
 ·refine Or.inr ⟨fun w hw => ?_, by rw [h1]; exact Nat.le_refl _, fun s hs b hb => Or.inr ?_⟩
  ·rw [h1] at hw
   cases hw
  ·rw [if_neg (by omega)]
   exact h2 s hs b hb
section
variable {k jb t n : Nat} {P : Pr}
theorem Flies.step {a : Nat} {e : Ev} {Q : Pr} {outs : List Ot} {p' : Pm} (S : Step P ⟨a, e⟩ P.way Q outs p') (hway : ∀ u ∈ P.way, u ∈ Q.way) {s : Nat} (hs : s < 2) (he : s = 1 - a) {q : Int} (h : Flies P s q) : Flies Q s q := by
 have hpk : pk Q s = pk P s := by rw [he]; exact S.po
 have hbq : Behind P s → Behind Q s := fun ⟨k1, k2⟩ => by
  refine ⟨by rw [hpk]; exact k1, ?_⟩
  rw [hpk, S.ep _ (by omega)]
  exact k2
 obtain ⟨u, hu, hgo⟩ := h
 refine ⟨u, hway u hu, ?_⟩
 rcases hgo with ⟨g1, g2, g3, g4⟩ | ⟨g1, g2, g3, g4⟩ | ⟨g1, g⟩
 ·refine Or.inl ⟨g1, g2, g3, ?_⟩
  rw [S.ep _ (by omega)]
  rcases g4 with g4 | g4 | g4
  ·exact Or.inl g4
  ·exact Or.inr (Or.inl g4)
  ·exact Or.inr (Or.inr (hbq g4))
 ·exact Or.inr (Or.inl ⟨g1, g2, g3, by rw [S.ep _ hs]; exact g4⟩)
 ·exact Or.inr (Or.inr ⟨g1, hbq g⟩)
theorem Hs.tick (h : Hs k jb P) (hj : jb ≤ 1000000) {a : Nat} (ha : a < 2) : Hs k (jb + 1) (tickW P a) := by
 obtain ⟨⟨j, h1, h2⟩, h3⟩ := h
 exact ⟨⟨j + 1, h1.tick ha, by omega⟩, h3.tick h1 (by omega) ha⟩
theorem Hs.come (h : Hs k jb P) (hj : jb ≤ 1000000) {w : Wy} (hw : P.way[0]? = some w) : Hs k (jb + 1) (comeM P 0 w).2 := by
 obtain ⟨⟨j, h1, h2⟩, h3⟩ := h
 exact ⟨⟨j + 1, (h1.come hw).2, by omega⟩, h3.come h1 (by omega) hw⟩
theorem Tk.tick (h : Hs k jb P) (hj : jb ≤ 1000000) {a : Nat} (ha : a < 2) (hk : Tk t a P) : Tk t (a + 1) (tickW P a) := by
 obtain ⟨⟨j, h, h2⟩, hc⟩ := h
 rcases hk with hk | ⟨hcu, hln, hh⟩
 ·exact Or.inl hk
 obtain ⟨b1, b2, b3, b4⟩ := h.bound (by omega) ha
 have S := Step.tick h.pi ha ⟨0, 0, 0, 0, ⟨#[]⟩⟩
 obtain ⟨outs, ho⟩ : ∃ o, dataL (xo a) (P.s a).epoch (pk P a).known (dueL (pk P a).held) = o := ⟨_, rfl⟩
 have hol : outs.length ≤ 32 := by
  rw [← ho]
  unfold dataL
  rw [List.length_map]
  have h1 := dueL_len (pk P a).held
  have h2 := b1.len
  omega
 have hout : ∀ o ∈ outs, o.e.epoch = (P.s a).epoch ∧ o.dst = xo a := fun o hm => by
  rw [← ho] at hm
  obtain ⟨b, _, rfl⟩ := List.mem_map.1 hm
  exact ⟨rfl, rfl⟩
 obtain ⟨Q, hQ⟩ : ∃ Q, tickW P a = Q := ⟨_, rfl⟩
 rw [hQ] at S ⊢
 rw [ho] at S
 have hway : Q.way = P.way ++ wayOf outs := by
  rw [S.way]
  refine List.take_of_length_le ?_
  rw [List.length_append, List.length_map]
  omega
 refine Or.inr ⟨Curr.of_step ha S hout hcu, ?_, fun s hs b hb => ?_⟩
 ·rw [hway, List.length_append]
  unfold wayOf
  rw [List.length_map]
  omega
 ·by_cases e : s = a
  ·subst e
   rw [if_pos (by omega)]
   have hpt : pk Q s = (tickP (pk P s)).2 := S.pt
   rw [hpt] at hb
   obtain ⟨c, hc2, rfl⟩ := List.mem_map.1 (show b ∈ (pk P s).held.map fun h => (tickH h).2 from hb)
   have hold := hh s hs c hc2
   rw [if_neg (by omega)] at hold
   rcases hold with hold | hold
   ·exact absurd hold.1 (by omega)
   ·by_cases hd : 1 < c.left
    ·refine Or.inr ?_
     unfold tickH
     rw [if_pos hd]
     show c.left - 1 ≤ _
     omega
    ·refine Or.inl ⟨by omega, ⟨1 - s, ⟨1, (P.s s).epoch, (pk P s).known, c.seq, (tickH c).2.pay⟩⟩, ?_, Or.inl ⟨rfl, rfl, (tickH_seq c).symm, ?_⟩⟩
     ·rw [hway]
      refine List.mem_append_right _ (List.mem_map.2 ⟨outH (xo s) (P.s s).epoch (pk P s).known (tickH c).2, ?_, ?_⟩)
      ·rw [← ho]
       exact List.mem_map.2 ⟨_, List.mem_map.2 ⟨c, List.mem_filter.2 ⟨hc2, by unfold tickH; rw [if_neg hd]⟩, rfl⟩, rfl⟩
      ·have hz : (xo s - 1).toNat = 1 - s := by unfold xo; omega
       show (⟨(xo s - 1).toNat, ⟨1, (P.s s).epoch, (pk P s).known, (tickH c).2.seq, (tickH c).2.pay⟩⟩ : Wy) = _
       rw [hz, tickH_seq]
     ·show (pk P s).known = 0 ∨ (pk P s).known = (Q.s (1 - s)).epoch ∨ Behind Q s
      have hkn := hc.kn s hs
      have hk0 := b1.k0
      unfold Behind
      rw [hpt, S.ep _ (by omega)]
      show _ ∨ _ ∨ 0 < (pk P s).known ∧ (pk P s).known < _
      omega
  ·have he : s = 1 - a := by omega
   have hpo : pk Q s = pk P s := by rw [he]; exact S.po
   rw [hpo] at hb
   rcases hh s hs b hb with ⟨h8, h9⟩ | h9
   ·exact Or.inl ⟨by omega, Flies.step S (fun u hu => by rw [hway]; exact List.mem_append_left _ hu) hs he h9⟩
   ·refine Or.inr ?_
    by_cases h8 : s < a
    ·rw [if_pos h8] at h9
     rw [if_pos (by omega)]
     exact h9
    ·rw [if_neg h8] at h9
     rw [if_neg (by omega)]
     exact h9
theorem Tk.dn (h : Hs k jb P) (hk : Tk t 2 P) : Dn t 0 P := by
 obtain ⟨⟨j, h, h2⟩, hc⟩ := h
 refine ⟨⟨1028, Dr.start h.pi.few, Nat.le_refl _⟩, ?_⟩
 rcases hk with hk | ⟨hcu, hln, hh⟩
 ·exact Or.inl hk
 ·refine Or.inr ⟨hcu, ?_, fun s hs b hb => ?_⟩
  ·unfold psi
   have h1 := sumW_le (E0 := (P.s 0).epoch) (E1 := (P.s 1).epoch) P.way
   have h2 := fl_le P 0
   have h3 := fl_le P 1
   omega
  ·rcases hh s hs b hb with h9 | h9
   ·exact Or.inl h9.2
   ·rw [if_pos hs] at h9
    exact Or.inr h9
theorem Dn.come (h : Hs k jb P) (hj : jb ≤ 1000000) {w : Wy} (hw : P.way[0]? = some w) (hd : Dn t n P) : Dn t (n + 1) (comeM P 0 w).2 := by
 obtain ⟨⟨j, h, h2⟩, hc⟩ := h
 obtain ⟨⟨m, d1, d2⟩, d3⟩ := hd
 obtain ⟨e1, e2⟩ := Dr.come h (by omega) hc hw d1
 refine ⟨⟨m - 1, e2, by omega⟩, ?_⟩
 rcases d3 with d3 | ⟨d3, d4, d5⟩
 ·exact Or.inl d3
 ·obtain ⟨f1, f2⟩ := drainN h (by omega) hc hw d3
  exact Or.inr ⟨f1, by omega, Gd.come h (by omega) hc hw d3 d4 d5⟩
theorem Dn.few (hd : Dn t n P) : n ≤ 1028 := by
 obtain ⟨⟨m, d1, d2⟩, _⟩ := hd
 omega
theorem Dn.more (h : Hs k jb P) (hj : jb ≤ 1000000) {w : Wy} (hw : P.way[0]? = some w) (hd : Dn t n P) : n < 1028 := by
 have := (Dn.come h hj hw hd).few
 omega
theorem Dn.al (h : Hs k jb P) (hj : jb ≤ 1000000) (hw : P.way = []) (hd : Dn t n P) : Al (t + 1) P := by
 obtain ⟨⟨j, h, h2⟩, hc⟩ := h
 refine Or.inr ⟨hw, fun s hs b hb => ?_⟩
 rcases hd.2 with d | ⟨_, _, d⟩
 ·obtain ⟨b1, _⟩ := h.bound (by omega) hs
  have := (b1.held b hb).l1
  subst d
  show _ ≤ 17 - (((0 + 1 : Nat) : Int))
  omega
 ·rcases d s hs b hb with ⟨u, hu, _⟩ | d
  ·rw [hw] at hu
   cases hu
  ·omega
/-- Behind forty, nothing is held. -/
theorem Al.none (h : Hs k jb P) (hj : jb ≤ 1000000) (ha : Al 40 P) : P.way = [] ∧ ∀ s < 2, (pk P s).held = [] := by
 obtain ⟨⟨j, h, h2⟩, hc⟩ := h
 rcases ha with ha | ⟨h1, h3⟩
 ·exact absurd ha (by decide)
 ·refine ⟨h1, fun s hs => ?_⟩
  obtain ⟨b1, _⟩ := h.bound (by omega) hs
  cases e : (pk P s).held with
  | nil => rfl
  | cons b l =>
   have k1 := (b1.held b (by rw [e]; exact List.mem_cons_self)).l0
   have k2 := h3 s hs b (by rw [e]; exact List.mem_cons_self)
   omega
end
end Go.Proofs.Ytccdpgbmkiapdaa.Ses
