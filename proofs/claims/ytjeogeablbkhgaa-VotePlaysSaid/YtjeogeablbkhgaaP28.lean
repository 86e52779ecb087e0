/-
  Layer 6: the code's Join of lists of items, whole: its cells rise, and of each cell it has the first item of all.
  Conditions: none.
-/
import Derived.Test.YtjeogeablbkhgaaP25
import Derived.Test.YtjeogeablbkhgaaP26
import Derived.Test.YtjeogeablbkhgaaP27
namespace Go.Proofs.Ytjeogeablbkhgaa.Item
set_option maxRecDepth 100000
open Go.RowKit Go.Proofs.Ytjeogeablbkhgaa.Mem Go.Proofs.Ytjeogeablbkhgaa.Wire
/-- L is all items of a list, by their cells; of two of one cell the first one. -/
structure IsJoin (all L : List It) : Prop where
 rise : L.Pairwise fun x y => x.cell < y.cell
 first : ∀ c : Int, L.find? (fun x => x.cell == c) = all.find? (fun x => x.cell == c)
theorem find_lt {L : List It} {c : Int} (h : ∀ y ∈ L, c < y.cell) : L.find? (fun x => x.cell == c) = none := by
 rw [List.find?_eq_none]
 intro y hy
 have := h y hy
 simp
 omega
theorem rise_eq : ∀ {L M : List It}, L.Pairwise (fun x y => x.cell < y.cell) → M.Pairwise (fun x y => x.cell < y.cell) → (∀ c : Int, L.find? (fun x => x.cell == c) = M.find? (fun x => x.cell == c)) → L = M
 | [], [], _, _, _ => rfl
 | [], y :: M, _, _, h => by have := h y.cell; simp at this
 | x :: L, [], _, _, h => by have := h x.cell; simp at this
 | x :: L, y :: M, h1, h2, h => by
  obtain ⟨a1, a2⟩ := List.pairwise_cons.1 h1
  obtain ⟨b1, b2⟩ := List.pairwise_cons.1 h2
  have hxy : x.cell = y.cell := by
   rcases Int.lt_trichotomy x.cell y.cell with hlt | he | hgt
   ·have e := h x.cell
    have e1 : (x :: L).find? (fun z => z.cell == x.cell) = some x := by simp
    have e2 : (y :: M).find? (fun z => z.cell == x.cell) = none := find_lt (fun z hz => by
     rcases List.mem_cons.1 hz with rfl | hz
     ·exact hlt
     ·have := b1 z hz; omega)
    rw [e1, e2] at e
    cases e
   ·exact he
   ·have e := h y.cell
    have e1 : (y :: M).find? (fun z => z.cell == y.cell) = some y := by simp
    have e2 : (x :: L).find? (fun z => z.cell == y.cell) = none := find_lt (fun z hz => by
     rcases List.mem_cons.1 hz with rfl | hz
     ·exact hgt
     ·have := a1 z hz; omega)
    rw [e1, e2] at e
    cases e
  have e := h x.cell
  have e1 : (x :: L).find? (fun z => z.cell == x.cell) = some x := by simp
  have e2 : (y :: M).find? (fun z => z.cell == x.cell) = some y := by rw [hxy]; simp
  rw [e1, e2] at e
  have exy : x = y := Option.some.inj e
  subst exy
  rw [rise_eq a2 b2 fun c => ?_]
  by_cases hc : x.cell = c
  ·rw [find_lt (fun y hy => by have := a1 y hy; omega), find_lt (fun y hy => by have := b1 y hy; omega)]
  ·have e := h c
   have hc2 : (x.cell == c) = false := by simpa using hc
   rw [List.find?_cons, List.find?_cons, hc2] at e
   exact e
theorem IsJoin.eq {all L M : List It} (h : IsJoin all L) (k : IsJoin all M) : L = M := rise_eq h.rise k.rise fun c => (h.first c).trans (k.first c).symm
theorem cptF_spec (l : List It) : ∀ c : Int, Asc l → (∀ y ∈ l, c ≤ y.cell) → (cptF c l).Pairwise (fun x y => x.cell < y.cell) ∧ (∀ y ∈ cptF c l, c < y.cell) ∧ ∀ d : Int, d ≠ c → (cptF c l).find? (fun x => x.cell == d) = l.find? (fun x => x.cell == d) := by
 induction l with
 | nil => intro c _ _; exact ⟨List.Pairwise.nil, fun y hy => (by cases hy), fun d _ => rfl⟩
 | cons y l ih =>
  intro c ha hc
  obtain ⟨h1, h2⟩ := List.pairwise_cons.1 ha
  have hyc := hc y (List.mem_cons_self ..)
  rw [cptF]
  by_cases he : y.cell = c
  ·rw [if_pos he]
   obtain ⟨i1, i2, i3⟩ := ih c h2 (fun z hz => hc z (List.mem_cons_of_mem _ hz))
   refine ⟨i1, i2, fun d hd => ?_⟩
   have hyd : (y.cell == d) = false := by simp; omega
   rw [List.find?_cons, hyd]
   exact i3 d hd
  ·rw [if_neg he]
   obtain ⟨i1, i2, i3⟩ := ih y.cell h2 h1
   refine ⟨List.pairwise_cons.2 ⟨i2, i1⟩, fun z hz => ?_, fun d hd => ?_⟩
   ·rcases List.mem_cons.1 hz with rfl | hz
    ·omega
    ·have := i2 z hz; omega
   ·rw [List.find?_cons, List.find?_cons]
    by_cases hyd : y.cell = d
    ·rw [show (y.cell == d) = true by simpa using hyd]
    ·rw [show (y.cell == d) = false by simpa using hyd]
     exact i3 d (fun e => hyd e.symm)
theorem cpt_join {all l : List It} (ha : Asc l) (hs : Same all l) : IsJoin all (cpt l) := by
 have hf : ∀ c : Int, all.find? (fun x => x.cell == c) = l.find? (fun x => x.cell == c) := fun c => by
  rw [← List.head?_filter, ← List.head?_filter, hs c]
 match l, ha, hf with
 | [], _, hf => exact ⟨List.Pairwise.nil, fun c => (hf c).symm⟩
 | x :: l, ha, hf =>
  obtain ⟨h1, h2⟩ := List.pairwise_cons.1 ha
  obtain ⟨i1, i2, i3⟩ := cptF_spec l x.cell h2 h1
  refine ⟨List.pairwise_cons.2 ⟨i2, i1⟩, fun c => ?_⟩
  rw [hf c, cpt, List.find?_cons, List.find?_cons]
  by_cases hc : x.cell = c
  ·rw [show (x.cell == c) = true by simpa using hc]
  ·rw [show (x.cell == c) = false by simpa using hc]
   exact i3 c (fun e => hc e.symm)
theorem cptF_le (l : List It) : ∀ c : Int, (cptF c l).length ≤ l.length := by
 induction l with
 | nil => intro c; exact Nat.le_refl _
 | cons y l ih =>
  intro c
  rw [cptF]
  split
  ·have := ih c; rw [List.length_cons]; omega
  ·have := ih y.cell; rw [List.length_cons, List.length_cons]; omega
theorem cpt_le (l : List It) : (cpt l).length ≤ l.length := by
 cases l with
 | nil => exact Nat.le_refl _
 | cons x l => have := cptF_le l x.cell; rw [cpt, List.length_cons, List.length_cons]; omega
theorem compact_nil (f : Value) (w : World) : Calls Try.prog 46 #[.slice none 0 0, f] w fun e w' => e = .returned (.slice none 0 0) ∧ w = w' := by
 go_enter Try.func46, Try.ntmps46
 go_wp2_with fail
 go_returns
 exact ⟨rfl, rfl⟩
theorem row_of_own {w : World} {base g n c : Nat} {l : List It} (h : w.ownsRow base 60 5 (.slice (some ⟨g, 0, none⟩) n c) n (flat l)) : Row w g l ∧ n ≤ c ∧ base ≤ g := by
 rcases h.2 with ⟨h1, _⟩ | ⟨g', cap, cur, h1, h2, h3, h4, h5, h6, h7⟩
 ·cases h1
 ·simp only [Value.slice.injEq, Option.some.injEq, Addr.mk.injEq] at h1
  obtain ⟨⟨rfl, _, _⟩, _, rfl⟩ := h1
  refine ⟨⟨cur, 0, 0, h3, fun j u hu => ?_, fun j _ hj => by omega⟩, h4, h2⟩
  rw [← h7, List.getElem?_take] at hu
  split at hu
  ·simpa using hu
  ·cases hu
/-- What Join hands back: a slice of new memory that holds L and may be written, or nil. -/
def JoinOut (w : World) (all : List It) (v : Value) (w' : World) : Prop := ∃ L A c, IsJoin all L ∧ v = .slice A L.length c ∧ ((L = [] ∧ A = none ∧ c = 0) ∨ ∃ b ms, A = some ⟨b, 0, none⟩ ∧ w.heap.size ≤ b ∧ L.length ≤ c ∧ Cells w' b 60 (flat L ++ ms))
set_option maxHeartbeats 1000000 in
theorem join_any (O : Option Addr) (ls : List (Option Addr × Nat × List It)) (cap : Nat) (w : World) (h : Lists w O ls) (hl : ls.length ≤ 100) (ht : (allOf ls).length ≤ 100000) :
  Calls Try.prog 36 #[.slice O ls.length cap] w fun e w' => (∃ v, e = .returned v ∧ JoinOut w (allOf ls) v w') ∧ Below w.heap.size w w' := by
 have HC := Lib.hid (concat_any O ls cap w h hl ht)
 obtain ⟨n, hn⟩ : ∃ n, ls.length = n := ⟨_, rfl⟩
 obtain ⟨all, hall⟩ : ∃ a, allOf ls = a := ⟨_, rfl⟩
 rw [hn, hall] at HC
 rw [hall] at ht
 rw [hn, hall]
 clear hn hall h hl
 obtain ⟨tot, htot⟩ : ∃ t, all.length = t := ⟨_, rfl⟩
 have HTOT := Lib.hid htot
 rw [htot] at ht HC
 clear htot
 go_enter Try.func36, Try.ntmps36
 go_wp2_with fail
 refine HC.out.mono ?_
 rintro e w1 ⟨v, rfl, hrow, hb1⟩
 have HB1 := Lib.hid hb1
 by_cases h0 : tot = 0
 ·have hv : v = .slice none 0 0 ∨ ∃ g c, v = .slice (some ⟨g, 0, none⟩) 0 c := by
   rcases hrow.2 with ⟨h1, _⟩ | ⟨g, c, cur, h1, _⟩
   ·exact Or.inl h1
   ·exact Or.inr ⟨g, c, by rw [h1, h0]⟩
  have hall : all = [] := List.eq_nil_of_length_eq_zero (by have := HTOT.out; omega)
  subst hall
  rcases hv with rfl | ⟨g, c, rfl⟩
  ·clear hrow hb1
   go_wp2_with fail
   refine (sort_nil _ w1).mono ?_
   rintro e w2 ⟨rfl, rfl⟩
   go_wp2_with fail
   refine (compact_nil _ w1).mono ?_
   rintro e w2 ⟨rfl, rfl⟩
   go_wp2_with fail
   go_returns
   exact ⟨⟨_, rfl, [], none, 0, ⟨List.Pairwise.nil, fun _ => rfl⟩, rfl, Or.inl ⟨rfl, rfl, rfl⟩⟩, HB1.out⟩
  ·subst h0
   obtain ⟨hr, hc, hg⟩ := row_of_own (l := []) hrow
   have HS := Lib.hid (sort_any [] g c w1 hr (by decide))
   have HG := Lib.hid hg
   clear hrow hb1 hr hc hg
   go_wp2_with fail
   refine HS.out.mono ?_
   rintro e w2 ⟨rfl, l', hl', _, _, hr2, ho2⟩
   obtain rfl := List.eq_nil_of_length_eq_zero hl'
   have HCP := Lib.hid (compact_any [] g c w2 hr2 (Nat.zero_le _) (by decide))
   have HB2 := Lib.hid (HB1.out.trans (ho2.below HB1.out.size (fun k hk => by rw [hk]; exact HG.out)))
   clear hl' hr2 ho2
   go_wp2_with fail
   refine HCP.out.mono ?_
   rintro e w3 ⟨rfl, ⟨ms, hcl⟩, ho3⟩
   have HB3 := Lib.hid (HB2.out.trans (ho3.below HB2.out.size (fun k hk => by rw [hk]; exact HG.out)))
   have HCL := Lib.hid hcl
   clear hcl ho3
   go_wp2_with fail
   go_returns
   exact ⟨⟨_, rfl, [], _, _, ⟨List.Pairwise.nil, fun _ => rfl⟩, rfl, Or.inr ⟨g, ms, rfl, HG.out, Nat.zero_le _, HCL.out⟩⟩, HB3.out⟩
 ·have hv : ∃ g c, v = .slice (some ⟨g, 0, none⟩) tot c := by
   rcases hrow.2 with ⟨_, h1⟩ | ⟨g, c, cur, h1, _⟩
   ·exact absurd h1 h0
   ·exact ⟨g, c, h1⟩
  obtain ⟨g, c, rfl⟩ := hv
  obtain ⟨hr, hc, hg⟩ := row_of_own hrow
  have HS0 := sort_any all g c w1 hr (by rw [HTOT.out]; exact ht)
  rw [HTOT.out] at HS0
  have HS := Lib.hid HS0
  have HG := Lib.hid hg
  have HCC := Lib.hid hc
  clear hrow hb1 hr hc hg HS0 h0
  go_wp2_with fail
  refine HS.out.mono ?_
  rintro e w2 ⟨rfl, l', hl', ha, hs, hr2, ho2⟩
  have HJ := Lib.hid (cpt_join ha hs)
  have HCP0 := compact_any l' g c w2 hr2 (by rw [hl']; exact HCC.out) (by rw [hl']; exact ht)
  rw [hl'] at HCP0
  have HCP := Lib.hid HCP0
  have HB2 := Lib.hid (HB1.out.trans (ho2.below HB1.out.size (fun k hk => by rw [hk]; exact HG.out)))
  have HLE : Hid ((cpt l').length ≤ c) := Lib.hid (Nat.le_trans (cpt_le l') (by rw [hl']; exact HCC.out))
  clear hl' hr2 ho2 ha hs HCP0
  go_wp2_with fail
  refine HCP.out.mono ?_
  rintro e w3 ⟨rfl, ⟨ms, hcl⟩, ho3⟩
  have HB3 := Lib.hid (HB2.out.trans (ho3.below HB2.out.size (fun k hk => by rw [hk]; exact HG.out)))
  have HCL := Lib.hid hcl
  clear hcl ho3
  go_wp2_with fail
  go_returns
  exact ⟨⟨_, rfl, cpt l', _, _, HJ.out, rfl, Or.inr ⟨g, ms, rfl, HG.out, HLE.out, HCL.out⟩⟩, HB3.out⟩
end Go.Proofs.Ytjeogeablbkhgaa.Item
